/- Rek, PrB, PrC, PrD, PrE, PrF, Pck, Gck, GenW, Cod, Ows, Str, GenG. -/
import Derived.Test.YtndeidcddlmhbaaDoorZc1
import Derived.OrdersHeld
import Derived.Laws.AppendOwn
import Derived.Laws.ResultCell
import Derived.LaidEqlPtr
import Derived.Deep.MidRow
import Derived.Outline
import Derived.Deep.QuietTactic
import Derived.BigQuiet
/- A region that draws its order, whose loads are taken first: what they read holds until one store comes up, and that store waits for each of them. No program. -/
namespace Go.Proofs.YtndeidcddlmhbaaDoor
open Go.RowKit
section
variable {P : Program} {ops : Array Oper} {Q : Exit → Act → World → Prop} {md : Region.Mode} {S : World → Prop} {k : Nat}
/-- Whatever order is picked from here on; 'S' holds behind every operation, until number 'k' has come up. -/
def wpAnyK (P : Program) (md : Region.Mode) (ops : Array Oper) (Q : Exit → Act → World → Prop) (S : World → Prop) (k : Nat) : Nat → Array Bool → Act → World → Prop
  | 0, listed, a, w => Region.ready md ops listed = [] ∧ Q .normal a w
  | fuel + 1, listed, a, w =>
    (Region.ready md ops listed = [] → Q .normal a w) ∧
    ∀ i ∈ Region.ready md ops listed, wpOp P ops Q i (fun a' w' => (i ≠ k → listed.getD k true = false → S w') ∧ wpAnyK P md ops Q S k fuel (listed.setIfInBounds i true) a' w') a w
theorem wpAny_of_K : ∀ (fuel : Nat) (listed : Array Bool) (a : Act) (w : World), wpAnyK P md ops Q S k fuel listed a w → wpAny P md ops Q fuel listed a w
  | 0, _, _, _, h => h
  | fuel + 1, _, _, _, h => ⟨h.1, fun i hi => wpOp_mono (fun a' w' h' => wpAny_of_K fuel _ a' w' h'.2) (h.2 i hi)⟩
/-- Once 'k' has come up nothing more is asked. -/
theorem wpAnyK_of_any : ∀ (fuel : Nat) (listed : Array Bool) (a : Act) (w : World), listed.getD k true = true → wpAny P md ops Q fuel listed a w → wpAnyK P md ops Q S k fuel listed a w
  | 0, _, _, _, _, h => h
  | fuel + 1, listed, a, w, hk, h => by
    refine ⟨h.1, fun i hi => ?_⟩
    have hk' : (listed.setIfInBounds i true).getD k true = true := by
      by_cases e : i = k
      · subst e
        by_cases hlt : i < listed.size
        · simp [hlt]
        · simp [hlt]
      · rw [getD_set_ne true e]; exact hk
    refine wpOp_mono (K := wpAny P md ops Q fuel (listed.setIfInBounds i true)) (fun a' w' h' => ?_) (h.2 i hi)
    refine ⟨fun _ h0 => ?_, wpAnyK_of_any fuel _ a' w' hk' h'⟩
    rw [hk] at h0
    cases h0
theorem wpAnyK_first {i : Nat} {oi : Oper} {v : Value} {S' : World → Prop} (hi : ops[i]? = some oi) (hsel : ∀ (j : Nat) (o : Oper) cs b, ops[j]? = some o → o.op ≠ .select cs b) (hik : i ≠ k)
    (hQ : ∀ c a w, Q (.panic c) (a.put oi.dst v) w → Q (.panic c) a w) (hw : (∀ w, S' w) ∨ (S' = S ∧ ∃ ok, ops[k]? = some ok ∧ ∃ e ∈ ok.after, Region.binds md e = true ∧ e.on = i)) :
    ∀ (fuel : Nat) (listed : Array Bool) (a : Act) (w : World),
      (∀ j oj, ops[j]? = some oj → j ≠ i → listed.getD j true = false → (∀ e ∈ oj.after, Region.binds md e = true → e.on ≠ i) → oi.apart ops oj = true) →
      i ∈ Region.ready md ops listed → listed.getD k true = false ∨ (∀ w, S' w) → YieldsIf P ops S' oi v a → (listed.getD k true = false → S w) → S' w →
      wpAnyK P md ops Q S k fuel (listed.setIfInBounds i true) (a.put oi.dst v) w → wpAnyK P md ops Q S k (fuel + 1) listed a w := by
  intro fuel
  induction fuel with
  | zero =>
    intro listed a w _ hr _ hy hS hS' H
    refine ⟨fun h => (by rw [h] at hr; cases hr), fun j hj => ?_⟩
    by_cases hji : j = i
    · subst hji; exact hy.wpOp hi hS' ⟨fun _ h0 => hS h0, H⟩
    · have := ready_mono hj hji
      rw [H.1] at this
      cases this
  | succ fuel ih =>
    intro listed a w hfree hr hun0 hy hS hS' H
    refine ⟨fun h => (by rw [h] at hr; cases hr), fun j hj => ?_⟩
    by_cases hji : j = i
    · subst hji; exact hy.wpOp hi hS' ⟨fun _ h0 => hS h0, H⟩
    · have h1 := H.2 j (ready_mono hj hji)
      obtain ⟨hjun, oj, hoj, hall⟩ := mem_ready.1 hj
      have hnot : ∀ e ∈ oj.after, Region.binds md e = true → e.on ≠ i := fun e he hb heq => by
        have h1 := hall e he hb
        have h0 := (mem_ready.1 hr).1
        rw [heq] at h1
        rcases Nat.lt_or_ge i listed.size with h' | h'
        · simp [h'] at h0 h1; rw [h0] at h1; cases h1
        · simp [Array.getElem?_eq_none h'] at h1
      have h2 := wpOp_putIf hoj (hfree j oj hoj hji hjun hnot) (fun cs b => hsel i oi cs b hi) (fun cs b => hsel j oj cs b hoj) hQ hy h1
      have hfree' : ∀ k ok, ops[k]? = some ok → k ≠ i → (listed.setIfInBounds j true).getD k true = false →
          (∀ e ∈ ok.after, Region.binds md e = true → e.on ≠ i) → oi.apart ops ok = true := fun k ok hk hki hun hno => by
        refine hfree k ok hk hki ?_ hno
        by_cases hjk : j = k
        · subst hjk; exact hjun
        · rw [getD_set_ne true hjk] at hun; exact hun
      refine wpOp_mono (fun a' w' h3 => ?_) h2
      obtain ⟨hy', hT, hrest⟩ := h3
      have hTj : j ≠ k → listed.getD k true = false → S w' := fun hjk h0 => hT hjk (by rw [getD_set_ne true hik]; exact h0)
      refine ⟨hTj, ?_⟩
      have hrest' : wpAnyK P md ops Q S k fuel ((listed.setIfInBounds j true).setIfInBounds i true) (a'.put oi.dst v) w' := by
        rw [Array.setIfInBounds_comm _ _ hji]
        exact hrest
      rcases hw with hw | ⟨rfl, ok, hok, e, he, hb, hei⟩
      · refine ih (listed.setIfInBounds j true) a' w' hfree' (ready_mono hr (Ne.symm hji)) (.inr hw) hy' (fun h0 => ?_) (hw w') hrest'
        by_cases hjk : j = k
        · subst hjk
          exfalso
          have hjs : j < listed.size := by
            rcases Nat.lt_or_ge j listed.size with h' | h'
            · exact h'
            · have := (mem_ready.1 hj).1
              simp [Array.getElem?_eq_none h'] at this
          simp [hjs] at h0
        · exact hTj hjk (by rw [getD_set_ne true hjk] at h0; exact h0)
      · have hjk : j ≠ k := by
          rintro rfl
          rw [hoj] at hok
          obtain rfl := Option.some.inj hok
          exact hnot e he hb hei
        rcases hun0 with h0 | hall'
        · have hs' := hTj hjk h0
          exact ih (listed.setIfInBounds j true) a' w' hfree' (ready_mono hr (Ne.symm hji)) (.inl (by rw [getD_set_ne true hjk]; exact h0)) hy' (fun _ => hs') hs' hrest'
        · exact ih (listed.setIfInBounds j true) a' w' hfree' (ready_mono hr (Ne.symm hji)) (.inr hall') hy' (fun _ => hall' w') (hall' w') hrest'
/-- Take first what yields in whatever world. -/
theorem wpAnyK_take {i : Nat} {oi : Oper} {v : Value} {fuel : Nat} {listed : Array Bool} {a : Act} {w : World} (hi : ops[i]? = some oi) (hik : i ≠ k)
    (hs : Region.noSelect ops = true) (hf : Region.free md ops listed i = true) (hr : (Region.ready md ops listed).contains i = true)
    (hQ : ∀ c a w, Q (.panic c) (a.put oi.dst v) w → Q (.panic c) a w) (hy : YieldsIf P ops (fun _ => True) oi v a) (hS : S w)
    (h : wpAnyK P md ops Q S k fuel (listed.setIfInBounds i true) (a.put oi.dst v) w) : wpAnyK P md ops Q S k (fuel + 1) listed a w :=
  wpAnyK_first (S' := fun _ => True) hi (Region.noSelect_spec hs) hik hQ (.inl fun _ => trivial) fuel listed a w (Region.free_spec hi hf) (by simpa using hr) (.inr fun _ => trivial) hy (fun _ => hS) trivial h
def waitsB (md : Region.Mode) (ops : Array Oper) (k i : Nat) : Bool := match ops[k]? with | some o => o.after.any fun e => Region.binds md e && e.on == i | none => false
/-- Take first what yields in every world that meets S; 'k' waits for it. -/
theorem wpAnyK_load {i : Nat} {oi : Oper} {v : Value} {fuel : Nat} {listed : Array Bool} {a : Act} {w : World} (hi : ops[i]? = some oi) (hik : i ≠ k)
    (hs : Region.noSelect ops = true) (hf : Region.free md ops listed i = true) (hr : (Region.ready md ops listed).contains i = true) (hwt : waitsB md ops k i = true) (hun : listed.getD k true = false)
    (hQ : ∀ c a w, Q (.panic c) (a.put oi.dst v) w → Q (.panic c) a w) (hy : YieldsIf P ops S oi v a) (hS : S w)
    (h : wpAnyK P md ops Q S k fuel (listed.setIfInBounds i true) (a.put oi.dst v) w) : wpAnyK P md ops Q S k (fuel + 1) listed a w := by
  refine wpAnyK_first hi (Region.noSelect_spec hs) hik hQ (.inr ⟨rfl, ?_⟩) fuel listed a w (Region.free_spec hi hf) (by simpa using hr) (.inl hun) hy (fun _ => hS) hS h
  unfold waitsB at hwt
  split at hwt
  · rename_i ok hok
    rw [Array.any_eq_true'] at hwt
    obtain ⟨e, he, h2⟩ := hwt
    rw [Bool.and_eq_true, beq_iff_eq] at h2
    exact ⟨ok, hok, e, he, h2.1, h2.2⟩
  · cases hwt
theorem wpAnyK_all {rs : List Nat} {fuel : Nat} {listed : Array Bool} {a : Act} {w : World} (hr : Region.ready md ops listed = rs) (hne : rs ≠ [])
    (h : ∀ i ∈ rs, wpOp P ops Q i (fun a' w' => (i ≠ k → listed.getD k true = false → S w') ∧ wpAnyK P md ops Q S k fuel (listed.setIfInBounds i true) a' w') a w) : wpAnyK P md ops Q S k (fuel + 1) listed a w :=
  ⟨fun h0 => absurd (hr ▸ h0) hne, hr ▸ h⟩
theorem k_one {fuel : Nat} {listed : Array Bool} {a : Act} {w : World} {i : Nat} {o : Oper} (hr : Region.ready md ops listed = [i]) (ho : ops[i]? = some o)
    (h : ∀ K' : Act → World → Prop, (∀ a w, (i ≠ k → S w) → wpAnyK P md ops Q S k fuel (listed.setIfInBounds i true) a w → K' a w) → if Region.wanted o (yielded ops a.tmps) = true then Oper.wp P o a w K' Q else K' (a.put o.dst undef) w) : wpAnyK P md ops Q S k (fuel + 1) listed a w :=
  wpAnyK_all hr (by simp) fun j hj => by
    obtain rfl := List.mem_singleton.1 hj
    exact wpOp_step ho (fun K' hK => h K' (fun a w hS hW => hK a w ⟨fun h1 _ => hS h1, hW⟩))
theorem k_two {fuel : Nat} {listed : Array Bool} {a : Act} {w : World} {i j : Nat} {o o2 : Oper} (hr : Region.ready md ops listed = [i, j]) (ho : ops[i]? = some o) (ho2 : ops[j]? = some o2)
    (h : ∀ K' : Act → World → Prop, (∀ a w, (i ≠ k → S w) → wpAnyK P md ops Q S k fuel (listed.setIfInBounds i true) a w → K' a w) → if Region.wanted o (yielded ops a.tmps) = true then Oper.wp P o a w K' Q else K' (a.put o.dst undef) w)
    (h2 : ∀ K' : Act → World → Prop, (∀ a w, (j ≠ k → S w) → wpAnyK P md ops Q S k fuel (listed.setIfInBounds j true) a w → K' a w) → if Region.wanted o2 (yielded ops a.tmps) = true then Oper.wp P o2 a w K' Q else K' (a.put o2.dst undef) w) : wpAnyK P md ops Q S k (fuel + 1) listed a w :=
  wpAnyK_all hr (by simp) fun x hx => by
    rcases List.mem_cons.1 hx with rfl | hx
    · exact wpOp_step ho (fun K' hK => h K' (fun a w hS hW => hK a w ⟨fun h1 _ => hS h1, hW⟩))
    · obtain rfl := List.mem_singleton.1 hx
      exact wpOp_step ho2 (fun K' hK => h2 K' (fun a w hS hW => hK a w ⟨fun h1 _ => hS h1, hW⟩))
end
end Go.Proofs.YtndeidcddlmhbaaDoor

/- The law's own 'priced': the stay of one rental day. -/
namespace Go.Proofs.YtndeidcddlmhbaaDoor
open Go.RowKit

/-- One season, at the rate's block. -/
def Se (w : World) (v : Value) (b : Nat) : Prop := ∃ g cap, v = .slice (some ⟨g, 0, none⟩) 1 cap ∧ 1 ≤ cap ∧ cap ≤ maxLen ∧ g < w.heap.size ∧ w.cell? ⟨g, 0, none⟩ = some (.pointer (some ⟨b, 0, none⟩))
theorem Se.quiet {w w' : World} {v : Value} {b : Nat} (h : Se w v b) (hG : G w w' none) : Se w' v b := by
  obtain ⟨g, cap, rfl, h1, h2, h3, h4⟩ := h
  exact ⟨g, cap, rfl, h1, h2, Nat.lt_of_lt_of_le h3 hG.size, ((gcell hG).1 g _ h3).trans h4⟩
theorem sp_row : (Tryd.prog.info? 145).map (fun i => (i.zero, i.size, i.bytes)) = some (some (.pointer none), 1, 8) := by kernel_rfl
/-- An address appended to nothing. -/
theorem wp_append_sp {w : World} {o : Oper} {a : Act} {K : Act → World → Prop} {Q : Exit → Act → World → Prop} (s x : Operand)
    (ho : o.op = .call { callee := .builtin .append, args := #[s, x], argTypes := #[216, 216] }) (hs : a.eval s = .slice none 0 0)
    (g b : Nat) (hx : a.eval x = .slice (some ⟨g, 0, none⟩) 1 1) (hb : Bk w g 145 #[.pointer (some ⟨b, 0, none⟩)])
    (hK : ∀ v' w', Se w' v' b → (∀ g, v'.ownBlock = some g → w.heap.size ≤ g) → G w w' none → K (a.put o.dst v') w') : o.wp Tryd.prog a w K Q := by
  obtain ⟨i0, hi, hz0, hz1, hz2⟩ := info_parts sp_row
  refine wp_append_own w s x 216 ho w.heap.size 145 i0 _ 1 8 Tryd.underlying216 hi hz0 hz1 hz2 rfl (by decide) (.slice none 0 0) 0 [] hs (World.ownsRow_nil _ _ _ _) ⟨g, 0, none⟩ 1 1 [.pointer (some ⟨b, 0, none⟩)] hx rfl hb.at_ (by simp [Value.oneCell']) (by unfold maxLen; omega) (by omega) (Nat.le_refl _) ?_
  intro v w7 hown hgrow _
  refine hK v w7 ?_ (fun g e => (World.ownsRow.lt hown g e).1) hgrow
  obtain ⟨o1, o2⟩ := hown
  rcases o2 with ⟨_, o3⟩ | ⟨g, cap, cur, rfl, k1, k2, k3, k4, k5, k6⟩
  · omega
  · refine ⟨g, cap, rfl, by omega, k4, (Array.getElem?_eq_some_iff.1 k2).1, ?_⟩
    rw [cell_of_row w7 g 0 cur _ _ k2]
    have := congrArg (fun l : List Value => l[0]?) k6
    simpa using this
abbrev syC (v : Value) : Array Value := #[.int .i64 0, .int .i64 60, v]
theorem sy_info (v : Value) : (Tryd.prog.info? 218).map (·.size) = some (syC v).size := (by kernel_rfl : (Tryd.prog.info? 218).map (·.size) = some 3)
set_option maxRecDepth 100000 in
set_option maxHeartbeats 4000000 in
theorem stayOf1_c (w : World) (b : Nat) (h : Rt w b) : Calls Tryd.prog 144 #[.slice (some ⟨b, 0, none⟩) 1 1, .string ⟨#[99]⟩, .agg #[.int .i64 0, .int .i64 60]] w fun e w' => ∃ v, e = .returned (.agg (syC v)) ∧ Se w' v b ∧ G w w' none := by
  go_enter Tryd.func144, Tryd.ntmps144
  go_wp2_with fail
  refine wp_loop_rounds 2 ?_
  rw [rounds_succ]
  go_wp2_with fail
  have hB0 : Bk (((w.alloc (.cells #[.int .i64 0, .int .i64 60] 29)).alloc (.cells #[.int .i64 0, .int .i64 0, .slice none 0 0] 218)).alloc (.cells #[.int .i64 0, .int .i64 60, .slice none 0 0] 218)) w.heap.size 29 #[.int .i64 0, .int .i64 60] := ((Bk.new w _ _).alloc _).alloc _
  have hB1 : Bk (((w.alloc (.cells #[.int .i64 0, .int .i64 60] 29)).alloc (.cells #[.int .i64 0, .int .i64 0, .slice none 0 0] 218)).alloc (.cells #[.int .i64 0, .int .i64 60, .slice none 0 0] 218)) (w.heap.size + 1) 218 #[.int .i64 0, .int .i64 0, .slice none 0 0] := (Bk.newAt (by simp) _ _).alloc _
  have hB2 : Bk (((w.alloc (.cells #[.int .i64 0, .int .i64 60] 29)).alloc (.cells #[.int .i64 0, .int .i64 0, .slice none 0 0] 218)).alloc (.cells #[.int .i64 0, .int .i64 60, .slice none 0 0] 218)) (w.heap.size + 1 + 1) 218 #[.int .i64 0, .int .i64 60, .slice none 0 0] := Bk.newAt (by simp) _ _
  have hR : Rt (((w.alloc (.cells #[.int .i64 0, .int .i64 60] 29)).alloc (.cells #[.int .i64 0, .int .i64 0, .slice none 0 0] 218)).alloc (.cells #[.int .i64 0, .int .i64 60, .slice none 0 0] 218)) b := ((h.alloc _).alloc _).alloc _
  have hG : G w (((w.alloc (.cells #[.int .i64 0, .int .i64 60] 29)).alloc (.cells #[.int .i64 0, .int .i64 0, .slice none 0 0] 218)).alloc (.cells #[.int .i64 0, .int .i64 60, .slice none 0 0] 218)) none := (((G.refl w none).alloc _).alloc _).alloc _
  generalize (((w.alloc (.cells #[.int .i64 0, .int .i64 60] 29)).alloc (.cells #[.int .i64 0, .int .i64 0, .slice none 0 0] 218)).alloc (.cells #[.int .i64 0, .int .i64 60, .slice none 0 0] 218)) = w3 at hB0 hB1 hB2 hR hG ⊢
  obtain ⟨g0, hg0⟩ : ∃ g, w.heap.size = g := ⟨_, rfl⟩
  have hg1 : w.heap.size + 1 = g0 + 1 := by omega
  have hg2 : w.heap.size + 1 + 1 = g0 + 1 + 1 := by omega
  rw [hg0] at hB0 hB1 hB2 ⊢
  obtain ⟨g1, h1⟩ : ∃ g, g0 + 1 = g := ⟨_, rfl⟩
  rw [h1] at hB1 hB2 ⊢
  obtain ⟨g2, h2⟩ : ∃ g, g1 + 1 = g := ⟨_, rfl⟩
  rw [h2] at hB2 ⊢
  refine wp_region_any (by kernel_rfl) ?_
  change wpAny _ _ _ _ _ _ _ (World.drew _)
  have hB0 := hB0.quiet ((G.refl w3 none).drew)
  have hB1 := hB1.quiet ((G.refl w3 none).drew)
  have hB2 := hB2.quiet ((G.refl w3 none).drew)
  have hR := hR.quiet ((G.refl w3 none).drew)
  have hG := hG.drew
  generalize w3.drew = w4 at hB0 hB1 hB2 hR hG ⊢
  have hc2 : w4.cell? ⟨g2, 2, none⟩ = some (.slice none 0 0) := hB2.cell 2
  have hw0 : IntKind.i64.wrap 0 = 0 := by rw [IntKind.wrap_i64]; omega
  refine wpAny_of_K (S := fun w' => w'.cell? ⟨g2, 2, none⟩ = some (.slice none 0 0)) (k := 10) _ _ _ _ ?_
  refine wpAnyK_take (i := 0) (v := .pointer (some ⟨g2, 2, none⟩)) rfl (by decide) (by kernel_rfl) (by kernel_rfl) (by kernel_rfl) (fun _ _ _ h => h) (Or.inl ⟨by rfl, fun w _ => by go_simp⟩) hc2 ?_
  refine wpAnyK_load (i := 1) (v := .slice none 0 0) rfl (by decide) (by kernel_rfl) (by kernel_rfl) (by kernel_rfl) (by kernel_rfl) (by kernel_rfl) (fun _ _ _ h => h) (Or.inl ⟨by rfl, fun w hw => by have hw := hw; go_simp⟩) hc2 ?_
  refine wpAnyK_take (i := 2) (v := .slice (some ⟨b, 0, none⟩) 1 1) rfl (by decide) (by kernel_rfl) (by kernel_rfl) (by kernel_rfl) (fun _ _ _ h => h) (Or.inl ⟨by rfl, fun w _ => by go_simp⟩) hc2 ?_
  refine wpAnyK_take (i := 3) (v := .string ⟨#[99]⟩) rfl (by decide) (by kernel_rfl) (by kernel_rfl) (by kernel_rfl) (fun _ _ _ h => h) (Or.inl ⟨by rfl, fun w _ => by go_simp⟩) hc2 ?_
  refine wpAnyK_take (i := 4) (v := .int .i64 0) rfl (by decide) (by kernel_rfl) (by kernel_rfl) (by kernel_rfl) (fun _ _ _ h => h) (Or.inl ⟨by rfl, fun w _ => by go_simp⟩) hc2 ?_
  refine wpAnyK_take (i := 5) (v := .int .i64 0) rfl (by decide) (by kernel_rfl) (by kernel_rfl) (by kernel_rfl) (fun _ _ _ h => h) (Or.inl ⟨by rfl, fun w _ => by go_simp⟩) hc2 ?_
  refine k_one (i := 6) (by kernel_rfl) rfl fun K' hK => ?_
  refine st_call rfl (f := 101) (args := #[.slice (some ⟨b, 0, none⟩) 1 1, .string ⟨#[99]⟩, .int .i64 0]) (w1 := w4) (by go_simp) ?_
  refine (seasonOn1_c w4 b hR).mono ?_; rintro e w5 ⟨rfl, hG5⟩
  have hc5 : w5.cell? ⟨g2, 2, none⟩ = some (.slice none 0 0) := (hB2.quiet hG5).cell 2
  refine ⟨_, rfl, hK _ _ (fun _ => hc5) ?_⟩
  clear hK K'
  have hB0 := hB0.quiet hG5
  have hB1 := hB1.quiet hG5
  have hB2 := hB2.quiet hG5
  have hG := hG.trans hG5
  clear hG5 hR hc2
  refine k_one (i := 7) (by kernel_rfl) rfl fun K' hK => ?_
  refine st_val rfl (v := .slice (some ⟨w5.heap.size, 0, none⟩) 1 1) (w' := w5.alloc (.cells #[.pointer (some ⟨b, 0, none⟩)] 145)) (by go_simp) ?_
  refine hK _ _ (fun _ => (hB2.alloc _).cell 2) ?_
  clear hK K'
  have hP := Bk.new w5 145 #[.pointer (some ⟨b, 0, none⟩)]
  have hB0 := hB0.alloc (.cells #[.pointer (some ⟨b, 0, none⟩)] 145)
  have hB1 := hB1.alloc (.cells #[.pointer (some ⟨b, 0, none⟩)] 145)
  have hB2 := hB2.alloc (.cells #[.pointer (some ⟨b, 0, none⟩)] 145)
  have hG := hG.alloc (.cells #[.pointer (some ⟨b, 0, none⟩)] 145)
  clear hc5
  obtain ⟨g5, hg5⟩ : ∃ g, w5.heap.size = g := ⟨_, rfl⟩
  rw [hg5] at hP ⊢
  generalize w5.alloc (.cells #[.pointer (some ⟨b, 0, none⟩)] 145) = w6 at hP hB0 hB1 hB2 hG ⊢
  clear hg5
  have hl2 := hB2.lt
  refine k_one (i := 8) (by kernel_rfl) rfl fun K' hK => ?_
  refine st_wp rfl (wp_append_sp (.tmp 20) (.tmp 26) rfl (by go_simp) g5 b (by go_simp) hP fun v w7 hSe hvne hG7 => ?_)
  refine hK _ _ (fun _ => (hB2.quiet hG7).cell 2) ?_
  clear hK K'
  have hB0 := hB0.quiet hG7
  have hB1 := hB1.quiet hG7
  have hB2 := hB2.quiet hG7
  have hG := hG.trans hG7
  clear hP hG7
  refine wpAnyK_take (i := 9) (v := .pointer (some ⟨g2, 2, none⟩)) rfl (by decide) (by kernel_rfl) (by kernel_rfl) (by kernel_rfl) (fun _ _ _ h => h) (Or.inl ⟨by rfl, fun w _ => by go_simp⟩) (hB2.cell 2) ?_
  obtain ⟨gs, cap, rfl, q1, q2, q3, q4⟩ := hSe
  have hc1 := hB2.cell 2
  rw [show (#[Value.int .i64 0, .int .i64 60, .slice none 0 0] : Array Value)[2]? = some (.slice none 0 0) from rfl] at hc1
  have hf1 := hB2.free 2
  refine k_one (i := 10) (by kernel_rfl) rfl fun K' hK => ?_
  rw [if_pos (by rfl)]
  go_simp
  refine hK _ _ (fun h => absurd rfl h) ?_
  clear hK K' hc1 hf1
  refine wpAnyK_of_any _ _ _ _ (by kernel_rfl) ?_
  refine wpAny_done (by kernel_rfl) ?_ _
  have hne1 : gs ≠ g1 := by have := hvne gs rfl; omega
  have hne : ∀ g, (Value.slice (some ⟨gs, 0, none⟩) 1 cap).ownBlock = some g → g ≠ g2 := fun g e => by have := hvne g e; omega
  have hSe8 : Se (w7.setCell ⟨g2, 2, none⟩ (.slice (some ⟨gs, 0, none⟩) 1 cap)) (.slice (some ⟨gs, 0, none⟩) 1 cap) b := by
    refine ⟨gs, cap, rfl, q1, q2, by simpa [World.setCell] using q3, ?_⟩
    rw [← q4]
    exact World.cell?_of_block (w := w7) (Below.heap_setCell _ _ _ _ (hne gs rfl))
  have hB0 := hB0.far (p := ⟨g2, 2, none⟩) (by show g0 ≠ g2; omega) (.slice (some ⟨gs, 0, none⟩) 1 cap)
  have hB1 := hB1.far (p := ⟨g2, 2, none⟩) (by show g1 ≠ g2; omega) (.slice (some ⟨gs, 0, none⟩) 1 cap)
  have hB2 : Bk (w7.setCell ⟨g2, 2, none⟩ (.slice (some ⟨gs, 0, none⟩) 1 cap)) g2 218 #[.int .i64 0, .int .i64 60, .slice (some ⟨gs, 0, none⟩) 1 cap] := hB2.set 2 (.slice (some ⟨gs, 0, none⟩) 1 cap)
  have hG := hG.setCell (p := ⟨g2, 2, none⟩) (.inl (by show w.heap.size ≤ g2; omega)) (.slice (some ⟨gs, 0, none⟩) 1 cap)
  clear q3 q4 hvne hl2
  generalize w7.setCell ⟨g2, 2, none⟩ (.slice (some ⟨gs, 0, none⟩) 1 cap) = w8 at hSe8 hB0 hB1 hB2 hG ⊢
  have c1 := hB0.cell 1
  rw [show (#[Value.int .i64 0, .int .i64 60] : Array Value)[1]? = some (.int .i64 60) from rfl] at c1
  go_wp2_with fail
  rw [rounds_succ]
  go_wp2_with (first | (refine wpList_load_row rfl 218 _ rfl g2 rfl 218 #[.int .i64 0, .int .i64 60, .slice (some ⟨gs, 0, none⟩) 1 cap] (0, 0) _ hB2 Tryd.underlying218 rfl (sy_info _) ?_) | (refine wpList_store_row rfl 218 _ _ rfl g1 #[.int .i64 0, .int .i64 60, .slice (some ⟨gs, 0, none⟩) 1 cap] rfl rfl 218 _ hB1 (sy_info _) rfl (by simp [Value.oneCell']) ?_))
  refine bodyPost_ret (results_cell_row rfl _ _ g1 218 (syC (.slice (some ⟨gs, 0, none⟩) 1 cap)) (0, 0) _ rfl (hB1.setRow _) Tryd.underlying218 rfl (sy_info _)) rfl ?_
  refine ⟨_, rfl, ?_, hG.setRow (.inl (by omega)) _⟩
  obtain ⟨g', cap', e', q1', q2', q3', q4'⟩ := hSe8
  obtain ⟨rfl, rfl⟩ : gs = g' ∧ cap = cap' := by cases e'; exact ⟨rfl, rfl⟩
  refine ⟨gs, cap, rfl, q1', q2', by simpa using q3', ?_⟩
  rw [← q4']
  exact World.cell?_of_block (w := w8) (setRow_other w8 g1 gs _ hne1)
end Go.Proofs.YtndeidcddlmhbaaDoor

/- The law's own 'priced': what a stay of one rental day tells. -/
namespace Go.Proofs.YtndeidcddlmhbaaDoor
open Go.RowKit

theorem run_neq_ptr_same {P : Program} (w : World) {tp te : TypeId} {j : TypeInfo} (a : Addr) (hp : P.underlying tp = some (.pointer te)) (hte : P.info? te = some j) :
    (binOp .neq tp (.pointer (some a)) (.pointer (some a))).run P w = .ok (.bool false) w := by
  have h : ∀ d : Nat, (Op.equalIn (d + 1) tp (.pointer (some a)) (.pointer (some a))).run P w = .ok true w := fun d => by
    simp [Op.equalIn, run_underlying hp, sizeOf, typeInfo, hte, run_sameAddr_same]
  simp only [binOp]
  simp [Op.equal, Op.maxDepth, h 9999]
set_option maxRecDepth 100000 in
theorem stDays1_c (v : Value) (b : Nat) (w : World) (h : Se w v b) : Calls Tryd.prog 146 #[.agg (syC v)] w fun e w' => e = .returned (.int .i64 1) ∧ G w w' none := by
  obtain ⟨g, cap, rfl, q1, q2, q3, q4⟩ := h
  go_enter Tryd.func146, Tryd.ntmps146
  go_wp2_with fail
  go_ret
  exact ⟨rfl, (G.refl _ _).alloc _⟩
set_option maxRecDepth 100000 in
theorem begins0_c (v : Value) (w : World) : Calls Tryd.prog 193 #[.agg (syC v), .int .i64 0] w fun e w' => e = .returned (.int .i64 0) ∧ G w w' none := by
  go_enter Tryd.func193, Tryd.ntmps193
  go_wp2_with fail
  go_ret
  exact ⟨rfl, (G.refl _ _).alloc _⟩
set_option maxRecDepth 100000 in
theorem begins1_c (v : Value) (w : World) : Calls Tryd.prog 193 #[.agg (syC v), .int .i64 1] w fun e w' => e = .returned (.int .i64 1440) ∧ G w w' none := by
  go_enter Tryd.func193, Tryd.ntmps193
  go_wp2_with fail
  go_ret
  exact ⟨rfl, (G.refl _ _).alloc _⟩
set_option maxRecDepth 100000 in
set_option maxHeartbeats 1000000 in
theorem ends1_c (v : Value) (w : World) : Calls Tryd.prog 192 #[.agg (syC v), .int .i64 0] w fun e w' => e = .returned (.int .i64 60) ∧ G w w' none := by
  have hB := Bk.new w 218 (syC v)
  have hG := (G.refl w none).alloc (.cells (syC v) 218)
  have hw1 : IntKind.i64.wrap (0 + 1) = 1 := by rw [IntKind.wrap_i64]; omega
  have hw2 : IntKind.i64.wrap 1 = 1 := by rw [IntKind.wrap_i64]; omega
  go_enter Tryd.func192, Tryd.ntmps192
  go_wp2_with fail
  have hgl := hB.lt
  generalize w.alloc (.cells (syC v) 218) = w3 at hB hG hgl ⊢
  generalize w.heap.size = g at hB hgl ⊢
  have c0 : w3.cell? ⟨g, 0, none⟩ = some (.int .i64 0) := hB.cell 0
  have c1 : w3.cell? ⟨g, 1, none⟩ = some (.int .i64 60) := hB.cell 1
  have c2 : w3.cell? ⟨g, 2, none⟩ = some v := hB.cell 2
  go_region_held3 (fun w' => w'.cell? ⟨g, 0, none⟩ = some (.int .i64 0) ∧ w'.cell? ⟨g, 1, none⟩ = some (.int .i64 60) ∧ w'.cell? ⟨g, 2, none⟩ = some v) (first | exact ⟨c0, c1, c2⟩ | exact hS | go_keep) (first | (go_at_call 193; refine (begins1_c v _).mono ?_; rintro e w4 ⟨rfl, hG4⟩; have hG04 := hG.drew.trans hG4; have hB4 := (hB.quiet ((G.refl w3 none).drew)).quiet hG4; have hS : w4.cell? ⟨g, 0, none⟩ = some (.int .i64 0) ∧ w4.cell? ⟨g, 1, none⟩ = some (.int .i64 60) ∧ w4.cell? ⟨g, 2, none⟩ = some v := ⟨hB4.cell 0, hB4.cell 1, hB4.cell 2⟩))
  go_wp2_with fail
  go_ret
  exact ⟨rfl, hG04⟩
set_option maxRecDepth 100000 in
set_option maxHeartbeats 4000000 in
theorem weekendDays1_c (v : Value) (b : Nat) (w : World) (h : Se w v b) : Calls Tryd.prog 194 #[.agg (syC v), .int .i64 0] w fun e w' => e = .returned (.int .i64 1) ∧ G w w' none := by
  have h' := h
  obtain ⟨gs, cap, rfl, _, _, _, _⟩ := h'
  have hB := Bk.new w 218 (syC (.slice (some ⟨gs, 0, none⟩) 1 cap))
  have hG := (G.refl w none).alloc (.cells (syC (.slice (some ⟨gs, 0, none⟩) 1 cap)) 218)
  have hS := h.quiet hG
  go_enter Tryd.func194, Tryd.ntmps194
  go_wp2_with fail
  refine (begins0_c _ _).mono ?_; rintro e w1 ⟨rfl, hG1⟩
  have hB1 := hB.quiet hG1
  have hS1 := hS.quiet hG1
  have hG01 := hG.trans hG1
  clear hB hS hG hG1
  have d0 : w1.cell? ⟨w.heap.size, 0, none⟩ = some (.int .i64 0) := hB1.cell 0
  have d1 : w1.cell? ⟨w.heap.size, 1, none⟩ = some (.int .i64 60) := hB1.cell 1
  have d2 : w1.cell? ⟨w.heap.size, 2, none⟩ = some (.slice (some ⟨gs, 0, none⟩) 1 cap) := hB1.cell 2
  go_wp2_with fail
  refine (begins0_c _ _).mono ?_; rintro e w2 ⟨rfl, hG2⟩
  have hB2 := hB1.quiet hG2
  have hS2 := hS1.quiet hG2
  have hG02 := hG01.trans hG2
  clear hB1 hS1 hG01 hG2 d0 d1 d2
  have d0 : w2.cell? ⟨w.heap.size, 0, none⟩ = some (.int .i64 0) := hB2.cell 0
  have d1 : w2.cell? ⟨w.heap.size, 1, none⟩ = some (.int .i64 60) := hB2.cell 1
  have d2 : w2.cell? ⟨w.heap.size, 2, none⟩ = some (.slice (some ⟨gs, 0, none⟩) 1 cap) := hB2.cell 2
  go_wp2_with fail
  refine wp_loop_rounds 2 ?_
  rw [rounds_succ]
  go_wp2_with fail
  refine (stDays1_c _ b _ hS2).mono ?_; rintro e w3 ⟨rfl, hG3⟩
  have hB3 := hB2.quiet hG3
  have hS3 := hS2.quiet hG3
  have hG03 := hG02.trans hG3
  clear hB2 hS2 hG02 hG3 d0 d1 d2
  have d0 : w3.cell? ⟨w.heap.size, 0, none⟩ = some (.int .i64 0) := hB3.cell 0
  have d1 : w3.cell? ⟨w.heap.size, 1, none⟩ = some (.int .i64 60) := hB3.cell 1
  have d2 : w3.cell? ⟨w.heap.size, 2, none⟩ = some (.slice (some ⟨gs, 0, none⟩) 1 cap) := hB3.cell 2
  have hS3' := hS3
  obtain ⟨g', cap', e', q1, q2, q3, q4⟩ := hS3'
  obtain ⟨rfl, rfl⟩ : gs = g' ∧ cap = cap' := by cases e'; exact ⟨rfl, rfl⟩
  go_wp2_with fail
  refine (ends1_c _ _).mono ?_; rintro e w4 ⟨rfl, hG4⟩
  have hB4 := hB3.quiet hG4
  have hS4 := hS3.quiet hG4
  have hG04 := hG03.trans hG4
  clear hB3 hS3 hG03 hG4 d0 d1 d2 q3 q4
  have d0 : w4.cell? ⟨w.heap.size, 0, none⟩ = some (.int .i64 0) := hB4.cell 0
  have d1 : w4.cell? ⟨w.heap.size, 1, none⟩ = some (.int .i64 60) := hB4.cell 1
  have d2 : w4.cell? ⟨w.heap.size, 2, none⟩ = some (.slice (some ⟨gs, 0, none⟩) 1 cap) := hB4.cell 2
  go_wp2_with fail
  rw [rounds_succ]
  go_wp2_with fail
  refine (stDays1_c _ b _ hS4).mono ?_; rintro e w5 ⟨rfl, hG5⟩
  go_wp2_with fail
  go_ret
  exact ⟨rfl, hG04.trans hG5⟩
set_option maxRecDepth 100000 in
set_option maxHeartbeats 4000000 in
theorem sameSeason1_c (v : Value) (b : Nat) (w : World) (h : Se w v b) : Calls Tryd.prog 195 #[.agg (syC v), .int .i64 0, .int .i64 1] w fun e w' => e = .returned (.bool true) ∧ G w w' none := by
  obtain ⟨g, cap, rfl, q1, q2, q3, q4⟩ := h
  have hp : (w.alloc (.cells (syC (.slice (some ⟨g, 0, none⟩) 1 cap)) 218)).cell? ⟨g, 0, none⟩ = some (.pointer (some ⟨b, 0, none⟩)) := ((gcell ((G.refl w none).alloc _)).1 g _ q3).trans q4
  have hnp : ∀ w : World, (binOp .neq 145 (.pointer (some ⟨b, 0, none⟩)) (.pointer (some ⟨b, 0, none⟩))).run Tryd.prog w = .ok (.bool false) w := fun w => by
    obtain ⟨j, hj⟩ := Option.isSome_iff_exists.1 (show (Tryd.prog.info? 79).isSome = true by kernel_rfl)
    exact run_neq_ptr_same w _ Tryd.underlying145 hj
  go_enter Tryd.func195, Tryd.ntmps195
  go_wp2_with fail
  refine wp_loop_rounds 2 ?_
  rw [rounds_succ]
  go_wp2_with fail
  rw [rounds_succ]
  go_wp2_with fail
  go_ret
  exact ⟨rfl, (G.refl _ _).alloc _⟩
end Go.Proofs.YtndeidcddlmhbaaDoor

/- The law's own 'priced': the pieces of a rental day. -/
namespace Go.Proofs.YtndeidcddlmhbaaDoor
open Go.RowKit

/-- One piece, a day for 7. -/
def Pc (w : World) (v : Value) : Prop := ∃ g cap, v = .slice (some ⟨g, 0, none⟩) 1 cap ∧ 1 ≤ cap ∧ cap ≤ maxLen ∧ g < w.heap.size ∧ w.cell? ⟨g, 0, none⟩ = some (.int .i64 2) ∧ w.cell? ⟨g, 1, none⟩ = some (.int .i64 1) ∧ w.cell? ⟨g, 2, none⟩ = some (.int .i64 7)
theorem Pc.quiet {w w' : World} {v : Value} (h : Pc w v) (hG : G w w' none) : Pc w' v := by
  obtain ⟨g, cap, rfl, h1, h2, h3, h4, h5, h6⟩ := h
  exact ⟨g, cap, rfl, h1, h2, Nat.lt_of_lt_of_le h3 hG.size, ((gcell hG).1 g _ h3).trans h4, ((gcell hG).1 g _ h3).trans h5, ((gcell hG).1 g _ h3).trans h6⟩
abbrev pcC : Array Value := #[.int .i64 2, .int .i64 1, .int .i64 7]
theorem pc_row : (Tryd.prog.info? 155).map (fun i => (i.zero, i.size, i.bytes)) = some (some (.agg #[.int .i64 0, .int .i64 0, .int .i64 0]), 3, 24) := by kernel_rfl
theorem wp_append_pc {w : World} {o : Oper} {a : Act} {K : Act → World → Prop} {Q : Exit → Act → World → Prop} (s x : Operand)
    (ho : o.op = .call { callee := .builtin .append, args := #[s, x], argTypes := #[150, 150] }) (hs : a.eval s = .slice none 0 0)
    (g : Nat) (hx : a.eval x = .slice (some ⟨g, 0, none⟩) 1 1) (hb : Bk w g 155 pcC)
    (hK : ∀ v' w', Pc w' v' → (∀ g, v'.ownBlock = some g → w.heap.size ≤ g) → G w w' none → K (a.put o.dst v') w') : o.wp Tryd.prog a w K Q := by
  obtain ⟨i0, hi, hz0, hz1, hz2⟩ := info_parts pc_row
  refine wp_append_own w s x 150 ho w.heap.size 155 i0 _ 3 24 Tryd.underlying150 hi hz0 hz1 hz2 rfl (by decide) (.slice none 0 0) 0 [] hs (World.ownsRow_nil _ _ _ _) ⟨g, 0, none⟩ 1 1 pcC.toList hx rfl hb.at_ (by simp [Value.oneCell']) (by unfold maxLen; omega) (by omega) (Nat.le_refl _) ?_
  intro v w7 hown hgrow _
  refine hK v w7 ?_ (fun g e => (World.ownsRow.lt hown g e).1) hgrow
  obtain ⟨o1, o2⟩ := hown
  rcases o2 with ⟨_, o3⟩ | ⟨g, cap, cur, rfl, k1, k2, k3, k4, k5, k6⟩
  · omega
  · have hat : ∀ (i : Nat) (u : Value), (pcC.toList)[i]? = some u → w7.cell? ⟨g, i, none⟩ = some u := fun i u hu => by
      rw [cell_of_row w7 g i cur _ _ k2]
      have h1 := congrArg (fun l : List Value => l[i]?) k6
      simp only [List.nil_append] at h1
      rw [hu] at h1
      rw [List.getElem?_take] at h1
      split at h1
      · simpa using h1
      · cases h1
    exact ⟨g, cap, rfl, by omega, k4, (Array.getElem?_eq_some_iff.1 k2).1, hat 0 _ rfl, hat 1 _ rfl, hat 2 _ rfl⟩
set_option maxRecDepth 100000 in
theorem addNo_c (k d t : Int) (g : Nat) (w : World) : Calls Tryd.prog 191 #[.int .i64 k, .int .i64 d, .int .i64 (-1), .int .i64 t, .pointer (some ⟨g, 0, none⟩)] w fun e w' => e = .returned (.tuple #[]) ∧ w = w' := by
  go_enter Tryd.func191, Tryd.ntmps191
  go_wp2_with fail
  go_end0
  exact ⟨rfl, rfl⟩
set_option maxRecDepth 100000 in
set_option maxHeartbeats 2000000 in
theorem addDay_c (g : Nat) (w : World) (hB : Bk w g 150 #[.slice none 0 0]) : Calls Tryd.prog 191 #[.int .i64 2, .int .i64 1, .int .i64 7, .int .i64 1, .pointer (some ⟨g, 0, none⟩)] w fun e w' => ∃ v, e = .returned (.tuple #[]) ∧ Pc w' v ∧ Bk w' g 150 #[v] ∧ G w w' (some g) := by
  have c0 := hB.cell 0
  have f0 := hB.free 0
  have hgl := hB.lt
  rw [show (#[Value.slice none 0 0] : Array Value)[0]? = some (.slice none 0 0) from rfl] at c0
  go_enter Tryd.func191, Tryd.ntmps191
  go_wp2_with (at_builtin; refine wpList_plain rfl fun K' hK' => wp_append_pc _ _ rfl rfl w.heap.size rfl (Bk.newAt rfl _ _) fun v w7 hpc hvne hG7 => ?_; refine hK' _ _ ?_; clear hK'; obtain ⟨gs, cap, rfl, q1, q2, q3, q4, q5, q6⟩ := hpc; have hB7 := (hB.alloc (.cells #[.int .i64 2, .int .i64 1, .int .i64 7] 155)).quiet hG7; have c7 : w7.cell? ⟨g, 0, none⟩ = some (.slice none 0 0) := hB7.cell 0; have f7 := hB7.free 0)
  go_end0
  have hne : gs ≠ g := by have := hvne gs rfl; simp at this; omega
  have hcell : ∀ i, (w7.setCell ⟨g, 0, none⟩ (.slice (some ⟨gs, 0, none⟩) 1 cap)).cell? ⟨gs, i, none⟩ = w7.cell? ⟨gs, i, none⟩ := fun i => World.cell?_of_block (w := w7) (Below.heap_setCell _ _ _ _ hne)
  refine ⟨_, rfl, ⟨gs, cap, rfl, q1, q2, by simpa [World.setCell] using q3, (hcell 0).trans q4, (hcell 1).trans q5, (hcell 2).trans q6⟩, hB7.set 0 _, ?_⟩
  exact (((G.refl w (some g)).alloc _).trans (hG7.but (some g))).setCell (.inr rfl) _
/-- What stands while the pieces of the day are put together. -/
def PInv (w0 : World) (b g g6 : Nat) (v pv : Value) (w : World) : Prop := Bk w g 218 (syC v) ∧ Bk w g6 150 #[pv] ∧ Se w v b ∧ Rt w b ∧ G w0 w none
theorem PInv.quiet {w0 w w' : World} {b g g6 : Nat} {v pv : Value} (h : PInv w0 b g g6 v pv w) (hG : G w w' none) : PInv w0 b g g6 v pv w' :=
  ⟨h.1.quiet hG, h.2.1.quiet hG, h.2.2.1.quiet hG, h.2.2.2.1.quiet hG, h.2.2.2.2.trans hG⟩
set_option maxRecDepth 100000 in
set_option maxHeartbeats 8000000 in
theorem pieces1_c (v : Value) (b : Nat) (w : World) (h : Se w v b) (hR : Rt w b) : Calls Tryd.prog 171 #[.agg (syC v), .int .i64 0] w fun e w' => ∃ p, e = .returned p ∧ Pc w' p ∧ G w w' none := by
  have hmf : ∀ (fn : Go.Fn) (first cap : Array Value) (w : World), (Instr.makeFunc fn first cap).run Tryd.prog w = .ok (.func fn first cap) w := fun _ _ _ _ => rfl
  have h' := h
  obtain ⟨gs, cap, rfl, q1, q2, q3, q4⟩ := h'
  have hcs : (w.alloc (.cells (syC (.slice (some ⟨gs, 0, none⟩) 1 cap)) 218)).cell? ⟨gs, 0, none⟩ = some (.pointer (some ⟨b, 0, none⟩)) := ((gcell ((G.refl w none).alloc _)).1 gs _ q3).trans q4
  have hbl := hR.lt
  go_enter Tryd.func171, Tryd.ntmps171
  go_wp2_with fail
  clear hcs q4
  have hI : PInv w b w.heap.size (w.heap.size + 1) (.slice (some ⟨gs, 0, none⟩) 1 cap) (.slice none 0 0) ((w.alloc (.cells (syC (.slice (some ⟨gs, 0, none⟩) 1 cap)) 218)).alloc (.cells #[.slice none 0 0] 150)) := ⟨(Bk.new w _ _).alloc _, Bk.newAt (by simp) _ _, (h.quiet ((G.refl _ _).alloc _)).quiet ((G.refl _ _).alloc _), (hR.alloc _).alloc _, ((G.refl w none).alloc _).alloc _⟩
  have hg6 : w.heap.size ≤ w.heap.size + 1 := by omega
  have hgs6 : gs ≠ w.heap.size + 1 := by omega
  have hb6 : b ≠ w.heap.size + 1 := by omega
  have hgg6 : w.heap.size ≠ w.heap.size + 1 := by omega
  clear h hR q3 hbl
  generalize ((w.alloc (.cells (syC (.slice (some ⟨gs, 0, none⟩) 1 cap)) 218)).alloc (.cells #[.slice none 0 0] 150)) = w2 at hI ⊢
  generalize w.heap.size + 1 = g6 at hI hg6 hgs6 hb6 hgg6 ⊢
  obtain ⟨g, hg⟩ : ∃ g, w.heap.size = g := ⟨_, rfl⟩
  rw [hg] at hI hg6 hgg6 ⊢
  refine (stDays1_c _ b _ hI.2.2.1).mono ?_; rintro e w3 ⟨rfl, hG3⟩
  have hI := hI.quiet hG3
  have c0 : w3.cell? ⟨g, 0, none⟩ = some (.int .i64 0) := hI.1.cell 0
  have c1 : w3.cell? ⟨g, 1, none⟩ = some (.int .i64 60) := hI.1.cell 1
  have c2 : w3.cell? ⟨g, 2, none⟩ = some (.slice (some ⟨gs, 0, none⟩) 1 cap) := hI.1.cell 2
  have c6 : w3.cell? ⟨g6, 0, none⟩ = some (.slice none 0 0) := hI.2.1.cell 0
  have r3 : w3.cell? ⟨b, 3, none⟩ = some (.int .i64 (-1)) := (hI.2.2.2.1.cell 3).trans rt3
  have r4 : w3.cell? ⟨b, 4, none⟩ = some (.int .i64 7) := (hI.2.2.2.1.cell 4).trans rt4
  have r5 : w3.cell? ⟨b, 5, none⟩ = some (.int .i64 (-1)) := (hI.2.2.2.1.cell 5).trans rt5
  have r6 : w3.cell? ⟨b, 6, none⟩ = some (.int .i64 (-1)) := (hI.2.2.2.1.cell 6).trans rt6
  go_wp2_with fail
  go_region_held3 (fun w' => w'.cell? ⟨b, 3, none⟩ = some (.int .i64 (-1)) ∧ w'.cell? ⟨g, 0, none⟩ = some (.int .i64 0) ∧ w'.cell? ⟨g, 1, none⟩ = some (.int .i64 60) ∧ w'.cell? ⟨g, 2, none⟩ = some (.slice (some ⟨gs, 0, none⟩) 1 cap)) (first | exact ⟨r3, c0, c1, c2⟩ | exact hS5 | exact hS4 | go_keep) (first | (go_at_call 192; refine (ends1_c _ _).mono ?_; rintro e w4 ⟨rfl, hG4⟩; have hI4 := (hI.quiet ((G.refl w3 none).drew)).quiet hG4; have hS4 : w4.cell? ⟨b, 3, none⟩ = some (.int .i64 (-1)) ∧ w4.cell? ⟨g, 0, none⟩ = some (.int .i64 0) ∧ w4.cell? ⟨g, 1, none⟩ = some (.int .i64 60) ∧ w4.cell? ⟨g, 2, none⟩ = some (.slice (some ⟨gs, 0, none⟩) 1 cap) := ⟨(hI4.2.2.2.1.cell 3).trans rt3, hI4.1.cell 0, hI4.1.cell 1, hI4.1.cell 2⟩) | (go_at_call 193; refine (begins0_c _ _).mono ?_; rintro e w5 ⟨rfl, hG5⟩; have hI5 := hI4.quiet hG5; have hS5 : w5.cell? ⟨b, 3, none⟩ = some (.int .i64 (-1)) ∧ w5.cell? ⟨g, 0, none⟩ = some (.int .i64 0) ∧ w5.cell? ⟨g, 1, none⟩ = some (.int .i64 60) ∧ w5.cell? ⟨g, 2, none⟩ = some (.slice (some ⟨gs, 0, none⟩) 1 cap) := ⟨(hI5.2.2.2.1.cell 3).trans rt3, hI5.1.cell 0, hI5.1.cell 1, hI5.1.cell 2⟩) | (go_at_call 100; refine (begun1_c 60 60 _ (by omega) (by omega) (by omega) (by omega)).mono ?_; rintro e w' ⟨rfl, rfl⟩) | (go_at_call 191; refine (addNo_c _ _ _ _ _).mono ?_; rintro e w' ⟨rfl, rfl⟩))
  clear c0 c1 c2 c6 r3 r4 r5 r6
  have hI := hI5
  clear hI4 hI5 hS4 hS5
  have c0 : w5.cell? ⟨g, 0, none⟩ = some (.int .i64 0) := hI.1.cell 0
  have c1 : w5.cell? ⟨g, 1, none⟩ = some (.int .i64 60) := hI.1.cell 1
  have c2 : w5.cell? ⟨g, 2, none⟩ = some (.slice (some ⟨gs, 0, none⟩) 1 cap) := hI.1.cell 2
  have c6 : w5.cell? ⟨g6, 0, none⟩ = some (.slice none 0 0) := hI.2.1.cell 0
  have r3 : w5.cell? ⟨b, 3, none⟩ = some (.int .i64 (-1)) := (hI.2.2.2.1.cell 3).trans rt3
  have r4 : w5.cell? ⟨b, 4, none⟩ = some (.int .i64 7) := (hI.2.2.2.1.cell 4).trans rt4
  have r5 : w5.cell? ⟨b, 5, none⟩ = some (.int .i64 (-1)) := (hI.2.2.2.1.cell 5).trans rt5
  have r6 : w5.cell? ⟨b, 6, none⟩ = some (.int .i64 (-1)) := (hI.2.2.2.1.cell 6).trans rt6
  go_wp2_with fail
  refine (addDay_c g6 _ hI.2.1).mono ?_; rintro e w6 ⟨pv, rfl, hpc, hP6, hG6⟩
  obtain ⟨i1, i2, i3, i4, i5⟩ := hI
  have hSe6 : Se w6 (.slice (some ⟨gs, 0, none⟩) 1 cap) b := by
    obtain ⟨g', cap', e', k1, k2, k3, k4⟩ := i3
    obtain ⟨rfl, rfl⟩ : gs = g' ∧ cap = cap' := by cases e'; exact ⟨rfl, rfl⟩
    exact ⟨gs, cap, rfl, k1, k2, Nat.lt_of_lt_of_le k3 hG6.size, ((gcell_s hG6).1 gs _ k3 hgs6).trans k4⟩
  have hI : PInv w b g g6 (.slice (some ⟨gs, 0, none⟩) 1 cap) pv w6 := ⟨i1.grown hG6 (fun e => hgg6 (Option.some.inj e)), hP6, hSe6, i4.grown hG6 (fun e => hb6 (Option.some.inj e)), i5.other hG6 (fun j e => .inl (by have := Option.some.inj e; omega))⟩
  clear i1 i2 i3 i4 i5 hSe6 hP6 hG6
  clear c0 c1 c2 c6 r3 r4 r5 r6
  have c0 : w6.cell? ⟨g, 0, none⟩ = some (.int .i64 0) := hI.1.cell 0
  have c1 : w6.cell? ⟨g, 1, none⟩ = some (.int .i64 60) := hI.1.cell 1
  have c2 : w6.cell? ⟨g, 2, none⟩ = some (.slice (some ⟨gs, 0, none⟩) 1 cap) := hI.1.cell 2
  have c6 : w6.cell? ⟨g6, 0, none⟩ = some (pv) := hI.2.1.cell 0
  have r3 : w6.cell? ⟨b, 3, none⟩ = some (.int .i64 (-1)) := (hI.2.2.2.1.cell 3).trans rt3
  have r4 : w6.cell? ⟨b, 4, none⟩ = some (.int .i64 7) := (hI.2.2.2.1.cell 4).trans rt4
  have r5 : w6.cell? ⟨b, 5, none⟩ = some (.int .i64 (-1)) := (hI.2.2.2.1.cell 5).trans rt5
  have r6 : w6.cell? ⟨b, 6, none⟩ = some (.int .i64 (-1)) := (hI.2.2.2.1.cell 6).trans rt6
  go_wp2_with fail
  refine (weekendDays1_c _ b _ hI.2.2.1).mono ?_; rintro e w7 ⟨rfl, hG7⟩
  have hI := hI.quiet hG7
  have hpc := hpc.quiet hG7
  clear c0 c1 c2 c6 r3 r4 r5 r6
  have c0 : w7.cell? ⟨g, 0, none⟩ = some (.int .i64 0) := hI.1.cell 0
  have c1 : w7.cell? ⟨g, 1, none⟩ = some (.int .i64 60) := hI.1.cell 1
  have c2 : w7.cell? ⟨g, 2, none⟩ = some (.slice (some ⟨gs, 0, none⟩) 1 cap) := hI.1.cell 2
  have c6 : w7.cell? ⟨g6, 0, none⟩ = some (pv) := hI.2.1.cell 0
  have r3 : w7.cell? ⟨b, 3, none⟩ = some (.int .i64 (-1)) := (hI.2.2.2.1.cell 3).trans rt3
  have r4 : w7.cell? ⟨b, 4, none⟩ = some (.int .i64 7) := (hI.2.2.2.1.cell 4).trans rt4
  have r5 : w7.cell? ⟨b, 5, none⟩ = some (.int .i64 (-1)) := (hI.2.2.2.1.cell 5).trans rt5
  have r6 : w7.cell? ⟨b, 6, none⟩ = some (.int .i64 (-1)) := (hI.2.2.2.1.cell 6).trans rt6
  go_wp2_with fail
  refine wp_loop_rounds 2 ?_
  rw [rounds_succ]
  go_wp2_with fail
  refine (addNo_c _ _ _ _ _).mono ?_; rintro e w' ⟨rfl, rfl⟩
  go_wp2_with fail
  rw [rounds_succ]
  go_wp2_with fail
  refine (stDays1_c _ b _ hI.2.2.1).mono ?_; rintro e w8 ⟨rfl, hG8⟩
  have hI := hI.quiet hG8
  have hpc := hpc.quiet hG8
  clear c0 c1 c2 c6 r3 r4 r5 r6
  have c0 : w8.cell? ⟨g, 0, none⟩ = some (.int .i64 0) := hI.1.cell 0
  have c1 : w8.cell? ⟨g, 1, none⟩ = some (.int .i64 60) := hI.1.cell 1
  have c2 : w8.cell? ⟨g, 2, none⟩ = some (.slice (some ⟨gs, 0, none⟩) 1 cap) := hI.1.cell 2
  have c6 : w8.cell? ⟨g6, 0, none⟩ = some (pv) := hI.2.1.cell 0
  have r3 : w8.cell? ⟨b, 3, none⟩ = some (.int .i64 (-1)) := (hI.2.2.2.1.cell 3).trans rt3
  have r4 : w8.cell? ⟨b, 4, none⟩ = some (.int .i64 7) := (hI.2.2.2.1.cell 4).trans rt4
  have r5 : w8.cell? ⟨b, 5, none⟩ = some (.int .i64 (-1)) := (hI.2.2.2.1.cell 5).trans rt5
  have r6 : w8.cell? ⟨b, 6, none⟩ = some (.int .i64 (-1)) := (hI.2.2.2.1.cell 6).trans rt6
  go_wp2_with fail
  refine (sameSeason1_c _ b _ hI.2.2.1).mono ?_; rintro e w9 ⟨rfl, hG9⟩
  have hI := hI.quiet hG9
  have hpc := hpc.quiet hG9
  clear c0 c1 c2 c6 r3 r4 r5 r6
  have c0 : w9.cell? ⟨g, 0, none⟩ = some (.int .i64 0) := hI.1.cell 0
  have c1 : w9.cell? ⟨g, 1, none⟩ = some (.int .i64 60) := hI.1.cell 1
  have c2 : w9.cell? ⟨g, 2, none⟩ = some (.slice (some ⟨gs, 0, none⟩) 1 cap) := hI.1.cell 2
  have c6 : w9.cell? ⟨g6, 0, none⟩ = some (pv) := hI.2.1.cell 0
  have r3 : w9.cell? ⟨b, 3, none⟩ = some (.int .i64 (-1)) := (hI.2.2.2.1.cell 3).trans rt3
  have r4 : w9.cell? ⟨b, 4, none⟩ = some (.int .i64 7) := (hI.2.2.2.1.cell 4).trans rt4
  have r5 : w9.cell? ⟨b, 5, none⟩ = some (.int .i64 (-1)) := (hI.2.2.2.1.cell 5).trans rt5
  have r6 : w9.cell? ⟨b, 6, none⟩ = some (.int .i64 (-1)) := (hI.2.2.2.1.cell 6).trans rt6
  go_wp2_with fail
  refine (addNo_c _ _ _ _ _).mono ?_; rintro e w' ⟨rfl, rfl⟩
  go_wp2_with fail
  go_ret
  exact ⟨pv, rfl, hpc, hI.2.2.2.2⟩
end Go.Proofs.YtndeidcddlmhbaaDoor

/- The law's own 'priced': the plans of a stay of one rental day. -/
namespace Go.Proofs.YtndeidcddlmhbaaDoor
open Go.RowKit

abbrev plA : Array Value := #[.bool true, .int .i64 7, .int .i64 1, .int .i64 2, .int .i64 1, .int .i64 7]
abbrev plZ : Array Value := #[.bool false, .int .i64 0, .int .i64 0, .int .i64 0, .int .i64 0, .int .i64 0]
abbrev plE : Array Value := #[.bool true, .int .i64 0, .int .i64 0, .int .i64 0, .int .i64 0, .int .i64 0]
set_option maxRecDepth 100000 in
set_option maxHeartbeats 1000000 in
theorem better1_c (w : World) : Calls Tryd.prog 172 #[.agg plA, .agg plZ] w fun e w' => e = .returned (.bool true) ∧ G w w' none := by
  go_enter Tryd.func172, Tryd.ntmps172
  go_wp2_with fail
  go_ret
  exact ⟨rfl, ((G.refl _ _).alloc _).alloc _⟩
abbrev pl0 : Array Value := #[.bool false, .int .i64 0, .int .i64 0, .int .i64 0, .int .i64 0, .int .i64 0, .bool false, .int .i64 0, .int .i64 0, .int .i64 0, .int .i64 0, .int .i64 0]
abbrev pl1 : Array Value := #[.bool false, .int .i64 0, .int .i64 0, .int .i64 0, .int .i64 0, .int .i64 0, .bool true, .int .i64 0, .int .i64 0, .int .i64 0, .int .i64 0, .int .i64 0]
/-- The two plans, as they are at the end. -/
abbrev pl2 : Array Value := #[.bool true, .int .i64 7, .int .i64 1, .int .i64 2, .int .i64 1, .int .i64 7, .bool true, .int .i64 0, .int .i64 0, .int .i64 0, .int .i64 0, .int .i64 0]
/-- What stands while the plans are made. -/
def QInv (w0 : World) (b g0 gp : Nat) (v : Value) (pl : Array Value) (w : World) : Prop := Bk w g0 218 (syC v) ∧ Bk w gp 223 pl ∧ Se w v b ∧ Rt w b ∧ G w0 w none
theorem QInv.quiet {w0 w w' : World} {b g0 gp : Nat} {v : Value} {pl : Array Value} (h : QInv w0 b g0 gp v pl w) (hG : G w w' none) : QInv w0 b g0 gp v pl w' :=
  ⟨h.1.quiet hG, h.2.1.quiet hG, h.2.2.1.quiet hG, h.2.2.2.1.quiet hG, h.2.2.2.2.trans hG⟩
theorem QInv.set {w0 w : World} {b g0 gp : Nat} {v : Value} {pl : Array Value} (h : QInv w0 b g0 gp v pl w) (h0 : g0 ≠ gp) (hv : ∀ g, v.ownBlock = some g → g ≠ gp) (hb : b ≠ gp) (hw : w0.heap.size ≤ gp) (i : Nat) (x : Value) : QInv w0 b g0 gp v (pl.setIfInBounds i x) (w.setCell ⟨gp, i, none⟩ x) := by
  obtain ⟨h1, h2, h3, h4, h5⟩ := h
  refine ⟨h1.far (p := ⟨gp, i, none⟩) h0 x, h2.set i x, ?_, h4.far (p := ⟨gp, i, none⟩) hb x, h5.setCell (p := ⟨gp, i, none⟩) (.inl hw) x⟩
  obtain ⟨g, cap, rfl, q1, q2, q3, q4⟩ := h3
  exact ⟨g, cap, rfl, q1, q2, by simpa [World.setCell] using q3, (World.cell?_of_block (w := w) (Below.heap_setCell _ _ _ _ (hv g rfl))).trans q4⟩
theorem Bk.sub {w : World} {g : Nat} {T : TypeId} {cs : Array Value} (h : Bk w g T cs) (o : Nat) (sub : Array Value) (hs : ∀ (j : Nat) (u : Value), sub[j]? = some u → cs[o + j]? = some u) : ∀ j u, sub.toList[j]? = some u → w.cell? ((⟨g, o, none⟩ : Addr).add j) = some u := fun j u hu => by
  rw [add_at, h.cell]
  exact hs j u (by simpa using hu)
theorem pl_info : (Tryd.prog.info? 223).map (·.size) = some plA.size := (by kernel_rfl : (Tryd.prog.info? 223).map (·.size) = some 6)
set_option maxRecDepth 100000 in
set_option maxHeartbeats 8000000 in
theorem plans1_c (v : Value) (b : Nat) (w : World) (h : Se w v b) (hR : Rt w b) : Calls Tryd.prog 145 #[.agg (syC v)] w fun e w' => ∃ g, e = .returned (.slice (some ⟨g, 0, none⟩) 2 2) ∧ Bk w' g 223 pl2 ∧ G w w' none := by
  have hms : ∀ w : World, (Instr.makeSlice 220 (.int .i64 2) (.int .i64 2)).run Tryd.prog w = .ok (.slice (some ⟨w.heap.size, 0, none⟩) 2 2) (w.alloc (.cells pl0 223)) := fun _ => by kernel_rfl
  have hB := Bk.new w 218 (syC v)
  have hG := (G.refl w none).alloc (.cells (syC v) 218)
  have hS := h.quiet hG
  have hR' := hR.quiet hG
  have hvs : ∀ g, v.ownBlock = some g → g < w.heap.size := fun g e => by
    obtain ⟨g', cap, rfl, _, _, q3, _⟩ := h
    obtain rfl := Option.some.inj e
    exact q3
  have hbl := hR.lt
  go_enter Tryd.func145, Tryd.ntmps145
  go_wp2_with fail
  refine (stDays1_c _ b _ hS).mono ?_; rintro e w1 ⟨rfl, hG1⟩
  have hB1 := hB.quiet hG1
  have hS1 := hS.quiet hG1
  have hR1 := hR'.quiet hG1
  have hG01 := hG.trans hG1
  clear hB hS hR' hG hG1 h hR
  have hz1 := hB1.lt
  have hI : QInv w b w.heap.size w1.heap.size v pl0 (w1.alloc (.cells pl0 223)) := ⟨hB1.alloc _, Bk.new w1 _ _, hS1.quiet ((G.refl _ _).alloc _), hR1.alloc _, hG01.alloc _⟩
  have n1 : w.heap.size ≠ w1.heap.size := by omega
  have n2 : ∀ g, v.ownBlock = some g → g ≠ w1.heap.size := fun g e => by have := hvs g e; omega
  have n3 : b ≠ w1.heap.size := by omega
  have n4 : w.heap.size ≤ w1.heap.size := by omega
  clear hB1 hS1 hR1 hG01 hvs hbl hz1
  have hL := hI.1
  obtain ⟨g0, hg0⟩ : ∃ g, w.heap.size = g := ⟨_, rfl⟩
  rw [hg0] at hI n1 hL ⊢
  go_wp2_with (refine wpList_load_row rfl 218 _ rfl g0 rfl 218 (syC v) (0, 0) _ hL Tryd.underlying218 rfl (sy_info v) ?_)
  generalize w1.alloc (.cells pl0 223) = w2 at hI hL ⊢
  generalize w1.heap.size = gp at hI n1 n2 n3 n4 ⊢
  refine (stDays1_c _ b _ hI.2.2.1).mono ?_; rintro e w3 ⟨rfl, hG3⟩
  have hI := hI.quiet hG3
  clear hL
  have hL := hI.1.far (p := ⟨gp, 6, none⟩) n1 (.bool true)
  have d6 : w3.cell? ⟨gp, 6, none⟩ = some (.bool false) := hI.2.1.cell 6
  have f6 := hI.2.1.free 6
  have hI6 : QInv w b g0 gp v pl1 (w3.setCell ⟨gp, 6, none⟩ (.bool true)) := hI.set n1 n2 n3 n4 6 (.bool true)
  clear hI
  go_wp2_with (refine wpList_load_row rfl 218 _ rfl g0 rfl 218 (syC v) (0, 0) _ hL Tryd.underlying218 rfl (sy_info v) ?_)
  generalize w3.setCell ⟨gp, 6, none⟩ (.bool true) = w4 at hI6 hL ⊢
  refine (stDays1_c _ b _ hI6.2.2.1).mono ?_; rintro e w5 ⟨rfl, hG5⟩
  have hI := hI6.quiet hG5
  clear hI6 hL d6 f6
  have hL := hI.1
  go_wp2_with fail
  refine wp_loop_rounds 2 ?_
  rw [rounds_succ]
  go_wp2_with (refine wpList_load_row rfl 218 _ rfl g0 rfl 218 (syC v) (0, 0) _ hL Tryd.underlying218 rfl (sy_info v) ?_)
  refine (pieces1_c _ b _ hI.2.2.1 hI.2.2.2.1).mono ?_; rintro e w6 ⟨p, rfl, hp, hG6⟩
  have hI := hI.quiet hG6
  clear hL
  have hp' := hp
  obtain ⟨gc, cap, rfl, q1, q2, q3, q4, q5, q6⟩ := hp'
  go_wp2_with fail
  refine wp_loop_rounds 2 ?_
  rw [rounds_succ]
  have hI' := hI.quiet ((G.refl w6 none).alloc (.cells #[.int .i64 2, .int .i64 1, .int .i64 7] 155))
  have HA := Lib.hid (Bk.sub hI'.2.1 6 plE (fun j u hu => by
    match j, hu with
    | 0, hu => exact hu
    | 1, hu => exact hu
    | 2, hu => exact hu
    | 3, hu => exact hu
    | 4, hu => exact hu
    | 5, hu => exact hu
    | j + 6, hu => simp at hu))
  go_wp2_with (refine wpList_load_at rfl 223 _ rfl ⟨gp, 6, none⟩ rfl plE _ HA.out Tryd.underlying223 rfl pl_info ?_)
  have hP7 : Bk ((w6.alloc (.cells #[.int .i64 2, .int .i64 1, .int .i64 7] 155)).alloc (.cells #[.bool true, .int .i64 7, .int .i64 1, .int .i64 2, .int .i64 1, .int .i64 7] 223)) (w6.heap.size + 1) 223 plA := Bk.newAt (by simp) _ _
  have hI7 := hI'.quiet ((G.refl _ none).alloc (.cells #[.bool true, .int .i64 7, .int .i64 1, .int .i64 2, .int .i64 1, .int .i64 7] 223))
  have hgp : gp < w6.heap.size := hI.2.1.lt
  have n7 : w6.heap.size + 1 ≠ gp := by omega
  clear hI' HA hI hp q3 q4 q5 q6
  generalize ((w6.alloc (.cells #[.int .i64 2, .int .i64 1, .int .i64 7] 155)).alloc (.cells #[.bool true, .int .i64 7, .int .i64 1, .int .i64 2, .int .i64 1, .int .i64 7] 223)) = w7 at hP7 hI7 ⊢
  generalize w6.heap.size + 1 = g7 at hP7 n7 ⊢
  have hS7 : w7.cell? ⟨g7, 0, none⟩ = some (.bool true) ∧ w7.cell? ⟨g7, 1, none⟩ = some (.int .i64 7) ∧ w7.cell? ⟨g7, 2, none⟩ = some (.int .i64 1) ∧ w7.cell? ⟨g7, 3, none⟩ = some (.int .i64 2) ∧ w7.cell? ⟨g7, 4, none⟩ = some (.int .i64 1) ∧ w7.cell? ⟨g7, 5, none⟩ = some (.int .i64 7) ∧ w7.cell? ⟨gp, 0, none⟩ = some (.bool false) ∧ w7.cell? ⟨gp, 1, none⟩ = some (.int .i64 0) ∧ w7.cell? ⟨gp, 2, none⟩ = some (.int .i64 0) ∧ w7.cell? ⟨gp, 3, none⟩ = some (.int .i64 0) ∧ w7.cell? ⟨gp, 4, none⟩ = some (.int .i64 0) ∧ w7.cell? ⟨gp, 5, none⟩ = some (.int .i64 0) := ⟨hP7.cell 0, hP7.cell 1, hP7.cell 2, hP7.cell 3, hP7.cell 4, hP7.cell 5, hI7.2.1.cell 0, hI7.2.1.cell 1, hI7.2.1.cell 2, hI7.2.1.cell 3, hI7.2.1.cell 4, hI7.2.1.cell 5⟩
  go_region_held3 (fun w' => w'.cell? ⟨g7, 0, none⟩ = some (.bool true) ∧ w'.cell? ⟨g7, 1, none⟩ = some (.int .i64 7) ∧ w'.cell? ⟨g7, 2, none⟩ = some (.int .i64 1) ∧ w'.cell? ⟨g7, 3, none⟩ = some (.int .i64 2) ∧ w'.cell? ⟨g7, 4, none⟩ = some (.int .i64 1) ∧ w'.cell? ⟨g7, 5, none⟩ = some (.int .i64 7) ∧ w'.cell? ⟨gp, 0, none⟩ = some (.bool false) ∧ w'.cell? ⟨gp, 1, none⟩ = some (.int .i64 0) ∧ w'.cell? ⟨gp, 2, none⟩ = some (.int .i64 0) ∧ w'.cell? ⟨gp, 3, none⟩ = some (.int .i64 0) ∧ w'.cell? ⟨gp, 4, none⟩ = some (.int .i64 0) ∧ w'.cell? ⟨gp, 5, none⟩ = some (.int .i64 0)) (first | exact hS7 | exact hS8 | go_keep) (first | (go_at_call 172; refine (better1_c _).mono ?_; rintro e w8 ⟨rfl, hG8⟩; have hP8 := (hP7.quiet ((G.refl w7 none).drew)).quiet hG8; have hI8 := (hI7.quiet ((G.refl w7 none).drew)).quiet hG8; have hS8 : w8.cell? ⟨g7, 0, none⟩ = some (.bool true) ∧ w8.cell? ⟨g7, 1, none⟩ = some (.int .i64 7) ∧ w8.cell? ⟨g7, 2, none⟩ = some (.int .i64 1) ∧ w8.cell? ⟨g7, 3, none⟩ = some (.int .i64 2) ∧ w8.cell? ⟨g7, 4, none⟩ = some (.int .i64 1) ∧ w8.cell? ⟨g7, 5, none⟩ = some (.int .i64 7) ∧ w8.cell? ⟨gp, 0, none⟩ = some (.bool false) ∧ w8.cell? ⟨gp, 1, none⟩ = some (.int .i64 0) ∧ w8.cell? ⟨gp, 2, none⟩ = some (.int .i64 0) ∧ w8.cell? ⟨gp, 3, none⟩ = some (.int .i64 0) ∧ w8.cell? ⟨gp, 4, none⟩ = some (.int .i64 0) ∧ w8.cell? ⟨gp, 5, none⟩ = some (.int .i64 0) := ⟨hP8.cell 0, hP8.cell 1, hP8.cell 2, hP8.cell 3, hP8.cell 4, hP8.cell 5, hI8.2.1.cell 0, hI8.2.1.cell 1, hI8.2.1.cell 2, hI8.2.1.cell 3, hI8.2.1.cell 4, hI8.2.1.cell 5⟩))
  have e0 : w8.cell? ⟨gp, 0, none⟩ = some (.bool false) := hI8.2.1.cell 0
  have f0 := hI8.2.1.free 0
  have e1 : w8.cell? ⟨gp, 1, none⟩ = some (.int .i64 0) := hI8.2.1.cell 1
  have f1 := hI8.2.1.free 1
  have e2 : w8.cell? ⟨gp, 2, none⟩ = some (.int .i64 0) := hI8.2.1.cell 2
  have f2 := hI8.2.1.free 2
  have e3 : w8.cell? ⟨gp, 3, none⟩ = some (.int .i64 0) := hI8.2.1.cell 3
  have f3 := hI8.2.1.free 3
  have e4 : w8.cell? ⟨gp, 4, none⟩ = some (.int .i64 0) := hI8.2.1.cell 4
  have f4 := hI8.2.1.free 4
  have e5 : w8.cell? ⟨gp, 5, none⟩ = some (.int .i64 0) := hI8.2.1.cell 5
  have f5 := hI8.2.1.free 5
  have hJ0 := hI8.set n1 n2 n3 n4 0 (.bool true)
  have hJ1 := hJ0.set n1 n2 n3 n4 1 (.int .i64 7)
  have hJ2 := hJ1.set n1 n2 n3 n4 2 (.int .i64 1)
  have hJ3 := hJ2.set n1 n2 n3 n4 3 (.int .i64 2)
  have hJ4 := hJ3.set n1 n2 n3 n4 4 (.int .i64 1)
  have hJ5 := hJ4.set n1 n2 n3 n4 5 (.int .i64 7)
  have hset : w8.setCells gp 0 plA.toList = ((((((w8.setCell ⟨gp, 0, none⟩ (.bool true)).setCell ⟨gp, 1, none⟩ (.int .i64 7)).setCell ⟨gp, 2, none⟩ (.int .i64 1)).setCell ⟨gp, 3, none⟩ (.int .i64 2)).setCell ⟨gp, 4, none⟩ (.int .i64 1)).setCell ⟨gp, 5, none⟩ (.int .i64 7)) := rfl
  have hJ : QInv w b g0 gp v pl2 (w8.setCells gp 0 plA.toList) := by rw [hset]; exact hJ5
  have hth : w8.there gp 0 6 := fun j hj => by
    match j, hj with
    | 0, _ => exact ⟨by rw [e0]; rfl, f0⟩
    | 1, _ => exact ⟨by rw [e1]; rfl, f1⟩
    | 2, _ => exact ⟨by rw [e2]; rfl, f2⟩
    | 3, _ => exact ⟨by rw [e3]; rfl, f3⟩
    | 4, _ => exact ⟨by rw [e4]; rfl, f4⟩
    | 5, _ => exact ⟨by rw [e5]; rfl, f5⟩
  have HT := Lib.hid hth
  have HJ := Lib.hid hJ
  clear hJ hset hth hJ0 hJ1 hJ2 hJ3 hJ4 hJ5 hS7 hS8 hI7 hI8 n1 n2 n3 n4 hms hP7 e0 e1 e2 e3 e4 e5 f0 f1 f2 f3 f4 f5
  go_wp2_with (first | (refine wpList_load_row rfl 223 _ rfl g7 rfl 223 plA (0, 0) _ hP8 Tryd.underlying223 rfl pl_info ?_) | (refine wpList_store_mid rfl 223 _ _ rfl gp 0 plA rfl rfl HT.out pl_info (by simp [Value.oneCell']) ?_; generalize w8.setCells gp 0 plA.toList = w9 at HJ ⊢))
  rw [rounds_succ]
  go_wp2_with fail
  rw [rounds_succ]
  go_wp2_with fail
  go_ret
  exact ⟨gp, rfl, HJ.out.2.1, HJ.out.2.2.2.2⟩
end Go.Proofs.YtndeidcddlmhbaaDoor

/- The law's own 'priced': Divide at one rate and one hour. -/
namespace Go.Proofs.YtndeidcddlmhbaaDoor
open Go.RowKit

set_option maxRecDepth 100000 in
set_option maxHeartbeats 2000000 in
theorem pcEqual_c (v u : Value) (w : World) (hv : Pc w v) (hu : Pc w u) : Calls Tryd.prog 105 #[v, u] w fun e w' => e = .returned (.bool true) ∧ G w w' none := by
  have hnq : ∀ w : World, (binOp .neq 155 (.agg pcC) (.agg pcC)).run Tryd.prog w = .ok (.bool false) w := fun _ => by kernel_rfl
  obtain ⟨g, cap, rfl, q1, q2, q3, q4, q5, q6⟩ := hv
  obtain ⟨k, cap', rfl, r1, r2, r3, r4, r5, r6⟩ := hu
  go_enter Tryd.func105, Tryd.ntmps105
  go_wp2_with fail
  refine wp_loop_rounds 2 ?_
  rw [rounds_succ]
  go_wp2_with fail
  go_quiet (fail)
  have hG := (G.refl w none).drewN nq
  go_wp2_with fail
  rw [rounds_succ]
  go_wp2_with fail
  go_ret
  exact ⟨rfl, hG⟩
set_option maxRecDepth 100000 in
set_option maxHeartbeats 8000000 in
theorem divide1_c (b : Nat) (w : World) (hR : Rt w b) : Calls Tryd.prog 104 #[.slice (some ⟨b, 0, none⟩) 1 1, .string ⟨#[99]⟩, .agg #[.int .i64 0, .int .i64 60]] w fun e w' => ∃ p, e = .returned (.tuple #[p, .int .i64 0]) ∧ Pc w' p ∧ G w w' none := by
  have hT := Bk.new w 29 #[.int .i64 0, .int .i64 60]
  have hG := (G.refl w none).alloc (.cells #[.int .i64 0, .int .i64 60] 29)
  have hR0 := hR.quiet hG
  go_enter Tryd.func104, Tryd.ntmps104
  go_wp2_with fail
  refine (checkStay1_c _ b hR0).mono ?_; rintro e w1 ⟨rfl, hG1⟩
  have hT := hT.quiet hG1
  have hR1 := hR0.quiet hG1
  have hG := hG.trans hG1
  clear hG1 hR hR0
  have c0 : w1.cell? ⟨w.heap.size, 0, none⟩ = some (.int .i64 0) := hT.cell 0
  have c1 : w1.cell? ⟨w.heap.size, 1, none⟩ = some (.int .i64 60) := hT.cell 1
  go_wp2_with fail
  refine (stayOf1_c _ b hR1).mono ?_; rintro e w2 ⟨v, rfl, hS2, hG2⟩
  have hR2 := hR1.quiet hG2
  have hG := hG.trans hG2
  clear hG2 hR1 hT c0 c1
  have hS2' := hS2
  obtain ⟨gs, cap, rfl, _, _, _, _⟩ := hS2'
  have hB := Bk.new w2 218 #[.int .i64 0, .int .i64 60, .slice (some ⟨gs, 0, none⟩) 1 cap]
  have hA := (G.refl w2 none).alloc (.cells #[.int .i64 0, .int .i64 60, .slice (some ⟨gs, 0, none⟩) 1 cap] 218)
  have hS3 := hS2.quiet hA
  have hR3 := hR2.quiet hA
  have hG := hG.trans hA
  clear hS2 hR2
  go_wp2_with fail
  refine (plans1_c _ b _ hS3 hR3).mono ?_; rintro e w4 ⟨gp, rfl, hP, hG4⟩
  have hB := hB.quiet hG4
  have hS4 := hS3.quiet hG4
  have hG := hG.trans hG4
  clear hG4 hS3 hR3 hA
  have p0 : w4.cell? ⟨gp, 0, none⟩ = some (.bool true) := hP.cell 0
  have d0 : w4.cell? ⟨w2.heap.size, 0, none⟩ = some (.int .i64 0) := hB.cell 0
  have d1 : w4.cell? ⟨w2.heap.size, 1, none⟩ = some (.int .i64 60) := hB.cell 1
  have d2 : w4.cell? ⟨w2.heap.size, 2, none⟩ = some (.slice (some ⟨gs, 0, none⟩) 1 cap) := hB.cell 2
  go_wp2_with fail
  refine wp_loop_rounds 2 ?_
  rw [rounds_succ]
  go_wp2_with fail
  refine (stDays1_c _ b _ hS4).mono ?_; rintro e w5 ⟨rfl, hG5⟩
  have hB := hB.quiet hG5
  have hS5 := hS4.quiet hG5
  have hP := hP.quiet hG5
  have hG := hG.trans hG5
  clear hG5 hS4 p0 d0 d1 d2
  have p3 : w5.cell? ⟨gp, 3, none⟩ = some (.int .i64 2) := hP.cell 3
  have p4 : w5.cell? ⟨gp, 4, none⟩ = some (.int .i64 1) := hP.cell 4
  have p5 : w5.cell? ⟨gp, 5, none⟩ = some (.int .i64 7) := hP.cell 5
  have hPl := hP.lt
  go_wp2_with (at_builtin; refine wpList_plain rfl fun K' hK' => wp_append_pc _ _ rfl rfl w5.heap.size rfl (Bk.newAt rfl _ _) fun p w7 hpc hvne hG7 => ?_; refine hK' _ _ ?_; clear hK'; have hP7 := (hP.alloc _).quiet hG7; have hB7 := (hB.alloc _).quiet hG7; have hS7 := (hS5.quiet ((G.refl _ none).alloc _)).quiet hG7; have hG07 := (hG.alloc _).trans hG7; have p4' : w7.cell? ⟨gp, 4, none⟩ = some (.int .i64 1) := hP7.cell 4)
  rw [rounds_succ]
  have d0 : w7.cell? ⟨w2.heap.size, 0, none⟩ = some (.int .i64 0) := hB7.cell 0
  have d1 : w7.cell? ⟨w2.heap.size, 1, none⟩ = some (.int .i64 60) := hB7.cell 1
  have d2 : w7.cell? ⟨w2.heap.size, 2, none⟩ = some (.slice (some ⟨gs, 0, none⟩) 1 cap) := hB7.cell 2
  go_wp2_with fail
  refine (stDays1_c _ b _ hS7).mono ?_; rintro e w8 ⟨rfl, hG8⟩
  go_wp2_with fail
  go_ret2
  exact ⟨p, rfl, hpc.quiet hG8, hG07.trans hG8⟩
set_option maxRecDepth 100000 in
set_option maxHeartbeats 4000000 in
theorem priced_c (w : World) : Calls Tryd.prog 50 #[] w fun e w' => e = .returned (.bool true) ∧ G w w' none := by
  have hR := Bk.new w 79 rtC
  go_enter Tryd.func50, Tryd.ntmps50
  go_wp2_with fail
  refine (divide1_c w.heap.size _ hR).mono ?_; rintro e w1 ⟨p, rfl, hp, hG1⟩
  have hG := ((G.refl w none).alloc (.cells rtC 79)).trans hG1
  clear hG1 hR
  have hA := (G.refl w1 none).alloc (.cells #[.int .i64 2, .int .i64 1, .int .i64 7] 155)
  have hp1 := hp.quiet hA
  have hn := Bk.new w1 155 #[.int .i64 2, .int .i64 1, .int .i64 7]
  have hp2 : Pc (w1.alloc (.cells #[.int .i64 2, .int .i64 1, .int .i64 7] 155)) (.slice (some ⟨w1.heap.size, 0, none⟩) 1 1) := ⟨_, 1, rfl, by omega, by decide, hn.lt, hn.cell 0, hn.cell 1, hn.cell 2⟩
  go_wp2_with fail
  refine (pcEqual_c _ _ _ hp1 hp2).mono ?_; rintro e w2 ⟨rfl, hG2⟩
  go_wp2_with fail
  go_ret
  exact ⟨rfl, (hG.trans hA).trans hG2⟩
end Go.Proofs.YtndeidcddlmhbaaDoor

/- What was picked; a block as a row; 'when' at literals. -/
namespace Go.Proofs.YtndeidcddlmhbaaDoor
open Go.RowKit

theorem small_of {s : ByteArray} (h : s.size ≤ 100) : Small s := by unfold Small; omega
theorem bnd_pick {zs : List Int} {r : Int} (h : r ∈ zs) (hz : zs.all (fun z => decide (-1099511627776 ≤ z ∧ z ≤ 1099511627776)) = true) : bnd r := by
  unfold bnd
  exact of_decide_eq_true (List.all_eq_true.1 hz r h)
theorem small_pick {zs : List ByteArray} {r : ByteArray} (h : r ∈ zs) (hz : zs.all (fun z => decide (z.size ≤ 100)) = true) : Small r := small_of (of_decide_eq_true (List.all_eq_true.1 hz r h))
theorem Bk.rd {w : World} {g : Nat} {T : TypeId} {cs : Array Value} (h : Bk w g T cs) (z n : Nat) (hc : cs.size = n * z) (hn : n ≤ 1000) : Rd w z (.slice (some ⟨g, 0, none⟩) n n) n cs.toList := by
  refine ⟨_, n, rfl, Nat.le_refl _, by unfold maxLen; omega, by simpa using hc, (fun e => by cases e), fun b hb => ?_⟩
  obtain rfl := Option.some.inj hb
  refine ⟨rfl, h.lt, fun j u hj => ?_⟩
  rw [Nat.zero_add, h.cell]
  simpa using hj
theorem when_t (n : Int) (w : World) : Calls Tryd.prog 20 #[.bool true, .int .i64 n] w fun e w' => e = .returned (.int .i64 n) ∧ w = w' := by simpa using when_c true n w
theorem when_f (n : Int) (w : World) : Calls Tryd.prog 20 #[.bool false, .int .i64 n] w fun e w' => e = .returned (.int .i64 0) ∧ w = w' := by simpa using when_c false n w
end Go.Proofs.YtndeidcddlmhbaaDoor

/- Generator: ClassKey. -/
namespace Go.Proofs.YtndeidcddlmhbaaDoor
open Go.RowKit

def ClassKeyPost (s K : Nat) (w : World) (e : Ending) (w' : World) : Prop := ∃ r : ByteArray, e = .returned (.string r) ∧ Small r ∧ SB w' s (K + 1) ∧ G w w' (some s)
theorem classKey_c (w : World) (s : Nat) (K : Nat) (hs : SB w s K) (hk : K ≤ 900000000000) :
    Calls Tryd.prog 33 #[.pointer (some ⟨s, 0, none⟩)] w (ClassKeyPost s K w) := by
  go_enter Tryd.func33, Tryd.ntmps33
  go_wp2_with fail
  refine (some_c _ _ _ [⟨#[109, 105, 110, 105]⟩, ⟨#[109, 105, 110, 105]⟩, ⟨#[109, 105, 100, 105]⟩, ⟨#[109, 97, 120, 105]⟩, ⟨#[98, 105, 103]⟩, ⟨#[109, 105, 110, 105]⟩, ⟨#[110, 111, 110, 101]⟩, ⟨#[]⟩, ⟨#[65]⟩] _ _ K (hs.alloc _) (by omega) (by decide) (by decide) (Rd.newAt _ rfl rfl (by decide)) (hs.newAt _ _ _ (Nat.le_refl _))).mono ?_; rintro e w1 ⟨r, rfl, hr, hSB1, hG1⟩
  have hrs := small_pick hr (by decide)
  have hG01 := ((G.refl w (some s)).alloc _).trans hG1
  clear hr
  go_wp2_with fail
  go_ret
  exact ⟨r, rfl, hrs, hSB1, hG01⟩
end Go.Proofs.YtndeidcddlmhbaaDoor

/- Generator: the time of a hire. -/
namespace Go.Proofs.YtndeidcddlmhbaaDoor
open Go.RowKit

def TimePost (s K : Nat) (w : World) (e : Ending) (w' : World) : Prop :=
  ∃ a z : Int, e = .returned (.agg #[.int .i64 a, .int .i64 z]) ∧ bnd a ∧ bnd z ∧ SB w' s (K + 8) ∧ G w w' (some s)
theorem time_fin {w w3 : World} {s K : Nat} {a z : Int} (hs : s < w.heap.size) (ha : bnd a) (hz : bnd z) (hSB : SB w3 s (K + 8)) (hG : G w w3 (some s)) :
    TimePost s K w (.returned (.agg #[.int .i64 a, .int .i64 z])) (w3.setRow w.heap.size #[.int .i64 a, .int .i64 z]) :=
  ⟨a, z, rfl, ha, hz, hSB.setRow hs _, hG.setRow (.inl (Nat.le_refl _)) _⟩
set_option maxRecDepth 100000 in
set_option maxHeartbeats 2000000 in
theorem time_c (w : World) (s : Nat) (K : Nat) (hs : SB w s K) (hk : K ≤ 900000000000) :
    Calls Tryd.prog 25 #[.pointer (some ⟨s, 0, none⟩)] w (TimePost s K w) := by
  have hslt := hs.lt
  go_enter Tryd.func25, Tryd.ntmps25
  go_wp2_with fail
  refine (pick_c _ _ _ [0, 0, 700, 5040, 5700, 6480, 6500, 8000, 10079, 20000] _ _ K ((hs.alloc _).alloc _) (by omega) (by decide) (by decide) (Rd.newAt _ (by simp) rfl (by decide)) (hs.newAt _ _ _ (by omega))).mono ?_
  rintro e w2 ⟨a, rfl, ha, hSB2, hG2⟩
  have ha0 : 0 ≤ a ∧ a ≤ 20000 := by simp only [List.mem_cons, List.mem_nil_iff, or_false] at ha; omega
  obtain ⟨a0, a1⟩ := ha0
  have hz2 : w.heap.size + 2 ≤ w2.heap.size := by have := hG2.size; simp at this; omega
  have hB2 := ((Bk.new w 29 #[.int .i64 0, .int .i64 0]).alloc (.cells _ 3)).grown hG2 (by simp; omega)
  have hG02 : G w w2 (some s) := (((G.refl w (some s)).alloc _).alloc _).trans hG2
  clear hG2 ha
  go_wp2_with fail
  refine (pick_c _ _ _ [1, 59, 60, 61, 300, 1440, 1441, 1500, 2880, 4320, 5850, 7200, 8641, 10080, 11520, 14800, 21600] _ _ _ (hSB2.alloc _) (by omega) (by decide) (by decide) (Rd.newAt _ rfl rfl (by decide)) (hSB2.newAt _ _ _ (Nat.le_refl _))).mono ?_
  rintro e w3 ⟨d, rfl, hd, hSB3, hG3⟩
  have hd0 : 1 ≤ d ∧ d ≤ 21600 := by simp only [List.mem_cons, List.mem_nil_iff, or_false] at hd; omega
  obtain ⟨d0, d1⟩ := hd0
  have hz3 := hG3.size
  have hB3 := (hB2.alloc (.cells _ 3)).grown hG3 (by simp; omega)
  have hG03 := (hG02.alloc _).trans hG3
  simp at hz3
  clear hG3 hd hB2 hG02 hSB2
  obtain ⟨z, hz⟩ : ∃ z, a + d = z := ⟨_, rfl⟩
  have hzb : 1 ≤ z ∧ z ≤ 41600 := by omega
  obtain ⟨z0, z1⟩ := hzb
  have hN4 := Bk.new w3 29 #[.int .i64 a, .int .i64 z]
  have hSB4 := hSB3.alloc (.cells #[.int .i64 a, .int .i64 z] 29)
  have hB4 := hB3.alloc (.cells #[.int .i64 a, .int .i64 z] 29)
  have hG04 := hG03.alloc (.cells #[.int .i64 a, .int .i64 z] 29)
  have hs3 := hSB3.lt
  have hl3 := hB3.lt
  have hgw : w.heap.size ≤ w3.heap.size := hG03.size
  clear hB3 hG03 hSB3 hz3
  have HZ : Hid (bnd a ∧ bnd z) := Lib.hid (by unfold bnd; omega)
  go_wp2_with fail
  generalize w3.alloc (.cells #[.int .i64 a, .int .i64 z] 29) = w4 at hN4 hSB4 hB4 hG04 ⊢
  generalize w3.heap.size = g at hN4 hs3 hl3 hgw ⊢
  clear hz z0 z1 a0 a1 d0 d1
  refine (flip_c _ _ _ _ hSB4 (by omega) (by omega)).mono ?_; rintro e w5 ⟨q, rfl, hSB5, hG5⟩
  have hN5 := hN4.grown hG5 (fun e => by have := Option.some.inj e; omega)
  have hB5 := hB4.grown hG5 (fun e => by have := Option.some.inj e; omega)
  have hG05 := hG04.trans hG5
  clear hN4 hB4 hG04 hG5 hSB4
  cases q with
  | false =>
    go_wp2_with (first | (refine wpList_load_row rfl 29 _ rfl g rfl 29 #[.int .i64 a, .int .i64 z] (0, 0) _ hN5 Tryd.underlying29 rfl (wi_info a z) ?_) | (refine wpList_store_row rfl 29 _ _ rfl w.heap.size #[.int .i64 a, .int .i64 z] rfl rfl 29 _ hB5 (wi_info a z) rfl (wi_one a z) ?_))
    refine bodyPost_ret (results_cell_row rfl _ _ w.heap.size 29 #[.int .i64 a, .int .i64 z] (0, 0) _ rfl (hB5.setRow _) Tryd.underlying29 rfl (wi_info a z)) rfl ?_
    exact time_fin hslt HZ.out.1 HZ.out.2 (hSB5.le (by omega)) hG05
  | true =>
    go_wp2_with fail
    refine (odd_c _ _ _ _ _ hSB5 (by omega) (by omega) (by omega) (by omega) (by omega)).mono ?_; rintro e w6 ⟨y1, rfl, y10, y11, hSB6, hG6⟩
    have hN6 := hN5.grown hG6 (fun e => by have := Option.some.inj e; omega)
    have hB6 := hB5.grown hG6 (fun e => by have := Option.some.inj e; omega)
    have hG06 := hG05.trans hG6
    clear hN5 hB5 hG05 hG6 hSB5
    go_wp2_with fail
    refine (pick_c _ _ _ [0, 1000, 5761439, 5761440, 172800, 173801] _ _ _ (hSB6.alloc _) (by omega) (by decide) (by decide) (Rd.newAt _ rfl rfl (by decide)) (hSB6.newAt _ _ _ (Nat.le_refl _))).mono ?_; rintro e w7 ⟨y2, rfl, hy2, hSB7, hG7⟩
    have b2 := bnd_pick hy2 (by decide)
    have hN7 := (hN6.alloc _).grown hG7 (fun e => by have := Option.some.inj e; omega)
    have hB7 := (hB6.alloc _).grown hG7 (fun e => by have := Option.some.inj e; omega)
    have hG07 := (hG06.alloc _).trans hG7
    clear hN6 hB6 hG06 hG7 hSB6 hy2
    have hN8 := hN7.setRow #[.int .i64 y1, .int .i64 y2]
    have hB8 := hB7.farRow (show w.heap.size ≠ g by omega) #[.int .i64 y1, .int .i64 y2]
    go_wp2_with (first | (refine wpList_store_row rfl 29 _ _ rfl g #[.int .i64 y1, .int .i64 y2] rfl rfl 29 _ hN7 (wi_info y1 y2) rfl (wi_one y1 y2) ?_) | (refine wpList_load_row rfl 29 _ rfl g rfl 29 #[.int .i64 y1, .int .i64 y2] (0, 0) _ hN8 Tryd.underlying29 rfl (wi_info y1 y2) ?_) | (refine wpList_store_row rfl 29 _ _ rfl w.heap.size #[.int .i64 y1, .int .i64 y2] rfl rfl 29 _ hB8 (wi_info y1 y2) rfl (wi_one y1 y2) ?_))
    refine bodyPost_ret (results_cell_row rfl _ _ w.heap.size 29 #[.int .i64 y1, .int .i64 y2] (0, 0) _ rfl (hB8.setRow _) Tryd.underlying29 rfl (wi_info y1 y2)) rfl ?_
    exact time_fin hslt ⟨y10, y11⟩ b2 ((hSB7.setRow hs3 _).le (by omega)) (hG07.setRow (.inl hgw) _)
end Go.Proofs.YtndeidcddlmhbaaDoor

/- Codes: CheckCodes; the reference's CodesFault. -/
namespace Go.Proofs.YtndeidcddlmhbaaDoor
open Go.RowKit

/-- A code: key, class, from, to, days, permille. -/
abbrev Cd := ByteArray × ByteArray × Int × Int × Int × Int
def cdC (x : Cd) : Array Value := #[.string x.1, .string x.2.1, .int .i64 x.2.2.1, .int .i64 x.2.2.2.1, .int .i64 x.2.2.2.2.1, .int .i64 x.2.2.2.2.2]
theorem cdC_sz (x : Cd) : (cdC x).size = 6 := rfl
theorem cd_info (x : Cd) : (Tryd.prog.info? 157).map (·.size) = some (cdC x).size := (by kernel_rfl : (Tryd.prog.info? 157).map (·.size) = some 6)
def cdB (x : Cd) : Prop := Small x.1 ∧ Small x.2.1 ∧ bnd x.2.2.1 ∧ bnd x.2.2.2.1 ∧ bnd x.2.2.2.2.1 ∧ bnd x.2.2.2.2.2
def CdOk (l : List Cd) : Prop := ∀ x ∈ l, cdB x
def cdBadC (x : Cd) : Bool := !x.2.1.toList.isEmpty && !keyB x.2.1
def cdBadN (x : Cd) : Bool := !(inB x.2.2.1 0 x.2.2.2.1 && (decide (x.2.2.2.1 ≤ 4001) && (inB x.2.2.2.2.1 1 120 && inB x.2.2.2.2.2 1 1000)))
def cdErr (b : ByteArray) : List Cd → Int
  | [] => 0
  | x :: r => if keyB x.1 = false then 5 else if leB x.1 b = true then 7 else if cdBadC x = true then 5 else if cdBadN x = true then 1 else cdErr x.1 r
def cdE (l : List Cd) : Int := if 50 < l.length then 2 else cdErr ⟨#[]⟩ l
def CdRel (w : World) (l : List Cd) (v i : Value) (wr : World) : Prop :=
  ∃ (k : Nat) (b : ByteArray), k ≤ l.length ∧ i = .int .i64 k ∧ v = .string b ∧ cdErr ⟨#[]⟩ l = cdErr b (l.drop k) ∧ G w wr none
theorem cdRow {W w : World} {bb bo n cap : Nat} {l : List Cd} (h : RdR W 6 cdC (.slice (some ⟨bb, bo, none⟩) n cap) l) (hG : G W w none) {k : Nat} {p : Cd} (hp : l[k]? = some p) :
    ∀ j v, (cdC p).toList[j]? = some v → w.cell? ((⟨bb, bo + k * 6, none⟩ : Addr).add j) = some v := fun j v hv => by
  rw [add_at]
  exact RdR.cell cdC_sz h hG hp j v hv
set_option maxRecDepth 100000 in
set_option maxHeartbeats 4000000 in
theorem checkCodes_c (v : Value) (l : List Cd) (w : World) (hr : RdR w 6 cdC v l) (hl : CdOk l) (hn : l.length ≤ 1000) :
    Calls Tryd.prog 55 #[v] w fun e w' => e = .returned (.int .i64 (cdE l)) ∧ G w w' none := by
  have HR := Lib.hid hr
  obtain ⟨a, cap, rfl, hcap, hm⟩ := RdR.form hr
  clear hr
  by_cases h30 : 50 < l.length
  · have H := Lib.hid (show cdE l = 2 by simp [cdE, h30])
    go_enter Tryd.func55, Tryd.ntmps55
    go_wp2_with fail
    go_ret
    exact ⟨by rw [H.out]; rfl, G.refl _ _⟩
  · have H := Lib.hid (show cdE l = cdErr ⟨#[]⟩ l by simp [cdE, h30])
    go_enter Tryd.func55, Tryd.ntmps55
    go_wp2_with fail
    go_loopw [3, 11] (CdRel w l) (fun _ i _ => l.length - (intOf i).toNat)
    case atStart => exact ⟨0, ⟨#[]⟩, by omega, rfl, rfl, rfl, G.refl _ _⟩
    case round =>
      obtain ⟨k, b, hkl, rfl, rfl, heq, hG⟩ := hrel
      have HE := Lib.hid heq
      clear heq
      by_cases hk : k < l.length
      · obtain ⟨p, hp⟩ : ∃ p, l[k]? = some p := ⟨_, List.getElem?_eq_getElem hk⟩
        have hdrop : l.drop k = p :: l.drop (k + 1) := by rw [List.drop_eq_getElem_cons hk, ← (List.getElem?_eq_some_iff.1 hp).2]
        have hpl := hl p (List.mem_of_getElem? hp)
        obtain ⟨bb, bo, rfl, hbb, _⟩ := RdR.elem cdC_sz HR.out hG hp
        have HW := Lib.hid (cdRow HR.out hG hp)
        have hs1 := hpl.1
        have hs2 := hpl.2.1
        unfold Small at hs1 hs2
        have HS : Hid (cdErr b (l.drop k) = if keyB p.1 = false then 5 else if leB p.1 b = true then 7 else if cdBadC p = true then 5 else if cdBadN p = true then 1 else cdErr p.1 (l.drop (k + 1))) := Lib.hid (by rw [hdrop]; rfl)
        have hB5 := Bk.new wr 157 (cdC p)
        have hG5 := hG.alloc (.cells (cdC p) 157)
        clear hdrop hp hpl hG
        go_wp2_with (refine wpList_load_at rfl 157 _ rfl ⟨bb, bo + k * 6, none⟩ rfl #[.string p.1, .string p.2.1, .int .i64 p.2.2.1, .int .i64 p.2.2.2.1, .int .i64 p.2.2.2.2.1, .int .i64 p.2.2.2.2.2] _ HW.out Tryd.underlying157 rfl (cd_info p) ?_)
        have hB5 : Bk (wr.alloc (.cells #[.string p.1, .string p.2.1, .int .i64 p.2.2.1, .int .i64 p.2.2.2.1, .int .i64 p.2.2.2.2.1, .int .i64 p.2.2.2.2.2] 157)) wr.heap.size 157 (cdC p) := hB5
        have hG5 : G w (wr.alloc (.cells #[.string p.1, .string p.2.1, .int .i64 p.2.2.1, .int .i64 p.2.2.2.1, .int .i64 p.2.2.2.2.1, .int .i64 p.2.2.2.2.2] 157)) none := hG5
        have hg5 := hB5.lt
        generalize wr.alloc (.cells #[.string p.1, .string p.2.1, .int .i64 p.2.2.1, .int .i64 p.2.2.2.1, .int .i64 p.2.2.2.2.1, .int .i64 p.2.2.2.2.2] 157) = w5 at hB5 hG5 hg5 ⊢
        generalize wr.heap.size = g at hB5 hg5 ⊢
        refine (isKey_c _ _ hs1).mono ?_; rintro e w6 ⟨rfl, rfl⟩
        have c0 : w5.cell? ⟨g, 0, none⟩ = some (.string p.1) := hB5.cell 0
        have c1 : w5.cell? ⟨g, 1, none⟩ = some (.string p.2.1) := hB5.cell 1
        have c2 : w5.cell? ⟨g, 2, none⟩ = some (.int .i64 p.2.2.1) := hB5.cell 2
        have c3 : w5.cell? ⟨g, 3, none⟩ = some (.int .i64 p.2.2.2.1) := hB5.cell 3
        have c4 : w5.cell? ⟨g, 4, none⟩ = some (.int .i64 p.2.2.2.2.1) := hB5.cell 4
        have c5 : w5.cell? ⟨g, 5, none⟩ = some (.int .i64 p.2.2.2.2.2) := hB5.cell 5
        cases hkb : keyB p.1 with
        | false =>
          have HF : Hid (cdE l = 5) := Lib.hid (by rw [H.out, HE.out, HS.out, if_pos hkb])
          clear hkb
          go_wp2_with fail
          go_ret
          exact ⟨by rw [HF.out]; rfl, hG5⟩
        | true =>
          have HK := Lib.hid hkb
          clear hkb
          cases hle : leB p.1 b with
          | true =>
            have HF : Hid (cdE l = 7) := Lib.hid (by rw [H.out, HE.out, HS.out, if_neg (by simp [HK.out]), if_pos hle])
            unfold leB at hle
            go_wp2_with fail
            go_ret
            exact ⟨by rw [HF.out]; rfl, hG5⟩
          | false =>
            have HS2 : Hid (cdErr ⟨#[]⟩ l = if cdBadC p = true then 5 else if cdBadN p = true then 1 else cdErr p.1 (l.drop (k + 1))) := Lib.hid (by rw [HE.out, HS.out, if_neg (by simp [HK.out]), if_neg (by simp [hle])])
            unfold leB at hle
            clear HS HE
            have HBC : Hid (cdBadC p = (!p.2.1.toList.isEmpty && !keyB p.2.1)) := Lib.hid rfl
            cases hem : p.2.1.toList.isEmpty with
            | true =>
              have HS3 : Hid (cdErr ⟨#[]⟩ l = if cdBadN p = true then 1 else cdErr p.1 (l.drop (k + 1))) := Lib.hid (by rw [HS2.out, if_neg (by simp [HBC.out, hem])])
              clear HS2 HBC
              rcases (show p.2.2.1 < 0 ∨ (0 ≤ p.2.2.1 ∧ p.2.2.2.1 < p.2.2.1) ∨ (0 ≤ p.2.2.1 ∧ p.2.2.1 ≤ p.2.2.2.1 ∧ 4001 < p.2.2.2.1) ∨ (0 ≤ p.2.2.1 ∧ p.2.2.1 ≤ p.2.2.2.1 ∧ p.2.2.2.1 ≤ 4001) by omega) with t1 | ⟨t1, t2⟩ | ⟨t1, t2, t3⟩ | ⟨t1, t2, t3⟩
              · have HF : Hid (cdE l = 1) := Lib.hid (by rw [H.out, HS3.out, if_pos (by rw [cdBadN, inB, decide_eq_false (show ¬ 0 ≤ p.2.2.1 by omega)]; simp)])
                go_wp2_with fail
                go_ret
                exact ⟨by rw [HF.out]; rfl, hG5⟩
              · have HF : Hid (cdE l = 1) := Lib.hid (by rw [H.out, HS3.out, if_pos (by rw [cdBadN, inB, decide_eq_false (show ¬ p.2.2.1 ≤ p.2.2.2.1 by omega)]; simp)])
                go_wp2_with fail
                go_ret
                exact ⟨by rw [HF.out]; rfl, hG5⟩
              · have HF : Hid (cdE l = 1) := Lib.hid (by rw [H.out, HS3.out, if_pos (by rw [cdBadN, inB, decide_eq_false (show ¬ p.2.2.2.1 ≤ 4001 by omega)]; simp)])
                go_wp2_with fail
                go_ret
                exact ⟨by rw [HF.out]; rfl, hG5⟩
              · have HIN : Hid (inB p.2.2.1 0 p.2.2.2.1 = true) := Lib.hid (by simp [inB, t1, t2])
                have hn1 : ¬ p.2.2.2.1 < p.2.2.1 := by omega
                have hn2 : ¬ 4001 < p.2.2.2.1 := by omega
                go_wp2_with fail
                refine (within_c _ _ _ _).mono ?_; rintro e w' ⟨rfl, rfl⟩
                cases hd1 : inB p.2.2.2.2.1 1 120 with
                | false =>
                  have HF : Hid (cdE l = 1) := Lib.hid (by rw [H.out, HS3.out, if_pos (by simp [cdBadN, hd1])])
                  go_wp2_with fail
                  go_ret
                  exact ⟨by rw [HF.out]; rfl, hG5⟩
                | true =>
                  have HD := Lib.hid hd1
                  clear hd1
                  go_wp2_with fail
                  refine (within_c _ _ _ _).mono ?_; rintro e w' ⟨rfl, rfl⟩
                  cases hp1 : inB p.2.2.2.2.2 1 1000 with
                  | false =>
                    have HF : Hid (cdE l = 1) := Lib.hid (by rw [H.out, HS3.out, if_pos (by simp [cdBadN, hp1])])
                    go_wp2_with fail
                    go_ret
                    exact ⟨by rw [HF.out]; rfl, hG5⟩
                  | true =>
                    have HF : Hid (cdErr ⟨#[]⟩ l = cdErr p.1 (l.drop (k + 1))) := Lib.hid (by rw [HS3.out, if_neg (by simp [cdBadN, HIN.out, HD.out, hp1, t3])])
                    clear hp1
                    go_wp2_with fail
                    go_roundw
                    case rel => exact ⟨k + 1, p.1, by omega, by go_num, rfl, HF.out, hG5⟩
                    case measure => simp [intOf]; omega
            | false =>
              have HEM := Lib.hid hem
              go_wp2_with fail
              refine (isKey_c _ _ hs2).mono ?_; rintro e w6 ⟨rfl, rfl⟩
              have c0 : w5.cell? ⟨g, 0, none⟩ = some (.string p.1) := hB5.cell 0
              have c1 : w5.cell? ⟨g, 1, none⟩ = some (.string p.2.1) := hB5.cell 1
              have c2 : w5.cell? ⟨g, 2, none⟩ = some (.int .i64 p.2.2.1) := hB5.cell 2
              have c3 : w5.cell? ⟨g, 3, none⟩ = some (.int .i64 p.2.2.2.1) := hB5.cell 3
              have c4 : w5.cell? ⟨g, 4, none⟩ = some (.int .i64 p.2.2.2.2.1) := hB5.cell 4
              have c5 : w5.cell? ⟨g, 5, none⟩ = some (.int .i64 p.2.2.2.2.2) := hB5.cell 5
              cases hkb : keyB p.2.1 with
              | false =>
                have HF : Hid (cdE l = 5) := Lib.hid (by rw [H.out, HS2.out, if_pos (by simp [HBC.out, HEM.out, hkb])])
                clear hkb
                go_wp2_with fail
                go_ret
                exact ⟨by rw [HF.out]; rfl, hG5⟩
              | true =>
                have HS3 : Hid (cdErr ⟨#[]⟩ l = if cdBadN p = true then 1 else cdErr p.1 (l.drop (k + 1))) := Lib.hid (by rw [HS2.out, if_neg (by simp [HBC.out, hkb])])
                clear HS2 HBC hkb
                rcases (show p.2.2.1 < 0 ∨ (0 ≤ p.2.2.1 ∧ p.2.2.2.1 < p.2.2.1) ∨ (0 ≤ p.2.2.1 ∧ p.2.2.1 ≤ p.2.2.2.1 ∧ 4001 < p.2.2.2.1) ∨ (0 ≤ p.2.2.1 ∧ p.2.2.1 ≤ p.2.2.2.1 ∧ p.2.2.2.1 ≤ 4001) by omega) with t1 | ⟨t1, t2⟩ | ⟨t1, t2, t3⟩ | ⟨t1, t2, t3⟩
                · have HF : Hid (cdE l = 1) := Lib.hid (by rw [H.out, HS3.out, if_pos (by rw [cdBadN, inB, decide_eq_false (show ¬ 0 ≤ p.2.2.1 by omega)]; simp)])
                  go_wp2_with fail
                  go_ret
                  exact ⟨by rw [HF.out]; rfl, hG5⟩
                · have HF : Hid (cdE l = 1) := Lib.hid (by rw [H.out, HS3.out, if_pos (by rw [cdBadN, inB, decide_eq_false (show ¬ p.2.2.1 ≤ p.2.2.2.1 by omega)]; simp)])
                  go_wp2_with fail
                  go_ret
                  exact ⟨by rw [HF.out]; rfl, hG5⟩
                · have HF : Hid (cdE l = 1) := Lib.hid (by rw [H.out, HS3.out, if_pos (by rw [cdBadN, inB, decide_eq_false (show ¬ p.2.2.2.1 ≤ 4001 by omega)]; simp)])
                  go_wp2_with fail
                  go_ret
                  exact ⟨by rw [HF.out]; rfl, hG5⟩
                · have HIN : Hid (inB p.2.2.1 0 p.2.2.2.1 = true) := Lib.hid (by simp [inB, t1, t2])
                  have hn1 : ¬ p.2.2.2.1 < p.2.2.1 := by omega
                  have hn2 : ¬ 4001 < p.2.2.2.1 := by omega
                  go_wp2_with fail
                  refine (within_c _ _ _ _).mono ?_; rintro e w' ⟨rfl, rfl⟩
                  cases hd1 : inB p.2.2.2.2.1 1 120 with
                  | false =>
                    have HF : Hid (cdE l = 1) := Lib.hid (by rw [H.out, HS3.out, if_pos (by simp [cdBadN, hd1])])
                    go_wp2_with fail
                    go_ret
                    exact ⟨by rw [HF.out]; rfl, hG5⟩
                  | true =>
                    have HD := Lib.hid hd1
                    clear hd1
                    go_wp2_with fail
                    refine (within_c _ _ _ _).mono ?_; rintro e w' ⟨rfl, rfl⟩
                    cases hp1 : inB p.2.2.2.2.2 1 1000 with
                    | false =>
                      have HF : Hid (cdE l = 1) := Lib.hid (by rw [H.out, HS3.out, if_pos (by simp [cdBadN, hp1])])
                      go_wp2_with fail
                      go_ret
                      exact ⟨by rw [HF.out]; rfl, hG5⟩
                    | true =>
                      have HF : Hid (cdErr ⟨#[]⟩ l = cdErr p.1 (l.drop (k + 1))) := Lib.hid (by rw [HS3.out, if_neg (by simp [cdBadN, HIN.out, HD.out, hp1, t3])])
                      clear hp1
                      go_wp2_with fail
                      go_roundw
                      case rel => exact ⟨k + 1, p.1, by omega, by go_num, rfl, HF.out, hG5⟩
                      case measure => simp [intOf]; omega
      · obtain rfl : k = l.length := by omega
        have HE2 : Hid (cdE l = 0) := Lib.hid (by rw [H.out, HE.out, List.drop_length]; rfl)
        go_wp2_with fail
        go_ret
        exact ⟨by rw [HE2.out]; rfl, hG⟩
set_option maxRecDepth 100000 in
set_option maxHeartbeats 4000000 in
theorem codesFault_c (v : Value) (l : List Cd) (w : World) (hr : RdR w 6 cdC v l) (hl : CdOk l) (hn : l.length ≤ 1000) :
    Calls Tryd.prog 54 #[v] w fun e w' => e = .returned (.int .i64 (cdE l)) ∧ G w w' none := by
  have HR := Lib.hid hr
  obtain ⟨a, cap, rfl, hcap, hm⟩ := RdR.form hr
  clear hr
  by_cases h30 : 50 < l.length
  · have H := Lib.hid (show cdE l = 2 by simp [cdE, h30])
    go_enter Tryd.func54, Tryd.ntmps54
    go_wp2_with fail
    go_ret
    exact ⟨by rw [H.out]; rfl, G.refl _ _⟩
  · have H := Lib.hid (show cdE l = cdErr ⟨#[]⟩ l by simp [cdE, h30])
    go_enter Tryd.func54, Tryd.ntmps54
    go_wp2_with fail
    go_loopw [3, 11] (CdRel w l) (fun _ i _ => l.length - (intOf i).toNat)
    case atStart => exact ⟨0, ⟨#[]⟩, by omega, rfl, rfl, rfl, G.refl _ _⟩
    case round =>
      obtain ⟨k, b, hkl, rfl, rfl, heq, hG⟩ := hrel
      have HE := Lib.hid heq
      clear heq
      by_cases hk : k < l.length
      · obtain ⟨p, hp⟩ : ∃ p, l[k]? = some p := ⟨_, List.getElem?_eq_getElem hk⟩
        have hdrop : l.drop k = p :: l.drop (k + 1) := by rw [List.drop_eq_getElem_cons hk, ← (List.getElem?_eq_some_iff.1 hp).2]
        have hpl := hl p (List.mem_of_getElem? hp)
        obtain ⟨bb, bo, rfl, hbb, _⟩ := RdR.elem cdC_sz HR.out hG hp
        have HW := Lib.hid (cdRow HR.out hG hp)
        have hs1 := hpl.1
        have hs2 := hpl.2.1
        unfold Small at hs1 hs2
        have HS : Hid (cdErr b (l.drop k) = if keyB p.1 = false then 5 else if leB p.1 b = true then 7 else if cdBadC p = true then 5 else if cdBadN p = true then 1 else cdErr p.1 (l.drop (k + 1))) := Lib.hid (by rw [hdrop]; rfl)
        have hB5 := Bk.new wr 157 (cdC p)
        have hG5 := hG.alloc (.cells (cdC p) 157)
        clear hdrop hp hpl hG
        go_wp2_with (refine wpList_load_at rfl 157 _ rfl ⟨bb, bo + k * 6, none⟩ rfl #[.string p.1, .string p.2.1, .int .i64 p.2.2.1, .int .i64 p.2.2.2.1, .int .i64 p.2.2.2.2.1, .int .i64 p.2.2.2.2.2] _ HW.out Tryd.underlying157 rfl (cd_info p) ?_)
        have hB5 : Bk (wr.alloc (.cells #[.string p.1, .string p.2.1, .int .i64 p.2.2.1, .int .i64 p.2.2.2.1, .int .i64 p.2.2.2.2.1, .int .i64 p.2.2.2.2.2] 157)) wr.heap.size 157 (cdC p) := hB5
        have hG5 : G w (wr.alloc (.cells #[.string p.1, .string p.2.1, .int .i64 p.2.2.1, .int .i64 p.2.2.2.1, .int .i64 p.2.2.2.2.1, .int .i64 p.2.2.2.2.2] 157)) none := hG5
        have hg5 := hB5.lt
        generalize wr.alloc (.cells #[.string p.1, .string p.2.1, .int .i64 p.2.2.1, .int .i64 p.2.2.2.1, .int .i64 p.2.2.2.2.1, .int .i64 p.2.2.2.2.2] 157) = w5 at hB5 hG5 hg5 ⊢
        generalize wr.heap.size = g at hB5 hg5 ⊢
        refine (rkey_c _ _ hs1).mono ?_; rintro e w6 ⟨rfl, hG1⟩
        have hB5 := hB5.quiet hG1
        have hG5 := hG5.trans hG1
        clear hG1
        have c0 : w6.cell? ⟨g, 0, none⟩ = some (.string p.1) := hB5.cell 0
        have c1 : w6.cell? ⟨g, 1, none⟩ = some (.string p.2.1) := hB5.cell 1
        have c2 : w6.cell? ⟨g, 2, none⟩ = some (.int .i64 p.2.2.1) := hB5.cell 2
        have c3 : w6.cell? ⟨g, 3, none⟩ = some (.int .i64 p.2.2.2.1) := hB5.cell 3
        have c4 : w6.cell? ⟨g, 4, none⟩ = some (.int .i64 p.2.2.2.2.1) := hB5.cell 4
        have c5 : w6.cell? ⟨g, 5, none⟩ = some (.int .i64 p.2.2.2.2.2) := hB5.cell 5
        cases hkb : keyB p.1 with
        | false =>
          have HF : Hid (cdE l = 5) := Lib.hid (by rw [H.out, HE.out, HS.out, if_pos hkb])
          clear hkb
          go_wp2_with fail
          go_ret
          exact ⟨by rw [HF.out]; rfl, hG5⟩
        | true =>
          have HK := Lib.hid hkb
          clear hkb
          cases hle : leB p.1 b with
          | true =>
            have HF : Hid (cdE l = 7) := Lib.hid (by rw [H.out, HE.out, HS.out, if_neg (by simp [HK.out]), if_pos hle])
            unfold leB at hle
            go_wp2_with fail
            go_ret
            exact ⟨by rw [HF.out]; rfl, hG5⟩
          | false =>
            have HS2 : Hid (cdErr ⟨#[]⟩ l = if cdBadC p = true then 5 else if cdBadN p = true then 1 else cdErr p.1 (l.drop (k + 1))) := Lib.hid (by rw [HE.out, HS.out, if_neg (by simp [HK.out]), if_neg (by simp [hle])])
            unfold leB at hle
            clear HS HE
            have HBC : Hid (cdBadC p = (!p.2.1.toList.isEmpty && !keyB p.2.1)) := Lib.hid rfl
            cases hem : p.2.1.toList.isEmpty with
            | true =>
              have HS3 : Hid (cdErr ⟨#[]⟩ l = if cdBadN p = true then 1 else cdErr p.1 (l.drop (k + 1))) := Lib.hid (by rw [HS2.out, if_neg (by simp [HBC.out, hem])])
              clear HS2 HBC
              go_wp2_with fail
              refine (in_c _ _ _ _).mono ?_; rintro e w' ⟨rfl, rfl⟩
              cases hin : inB p.2.2.1 0 p.2.2.2.1 with
              | false =>
                have HF : Hid (cdE l = 1) := Lib.hid (by rw [H.out, HS3.out, if_pos (by simp [cdBadN, hin])])
                go_wp2_with fail
                go_ret
                exact ⟨by rw [HF.out]; rfl, hG5⟩
              | true =>
                have HIN := Lib.hid hin
                clear hin
                rcases (show 4001 < p.2.2.2.1 ∨ p.2.2.2.1 ≤ 4001 by omega) with t3 | t3
                · have HF : Hid (cdE l = 1) := Lib.hid (by rw [H.out, HS3.out, if_pos (by rw [cdBadN, decide_eq_false (show ¬ p.2.2.2.1 ≤ 4001 by omega)]; simp)])
                  go_wp2_with fail
                  go_ret
                  exact ⟨by rw [HF.out]; rfl, hG5⟩
                · have hn2 : ¬ 4001 < p.2.2.2.1 := by omega
                  go_wp2_with fail
                  refine (in_c _ _ _ _).mono ?_; rintro e w' ⟨rfl, rfl⟩
                  cases hd1 : inB p.2.2.2.2.1 1 120 with
                  | false =>
                    have HF : Hid (cdE l = 1) := Lib.hid (by rw [H.out, HS3.out, if_pos (by simp [cdBadN, hd1])])
                    go_wp2_with fail
                    go_ret
                    exact ⟨by rw [HF.out]; rfl, hG5⟩
                  | true =>
                    have HD := Lib.hid hd1
                    clear hd1
                    go_wp2_with fail
                    refine (in_c _ _ _ _).mono ?_; rintro e w' ⟨rfl, rfl⟩
                    cases hp1 : inB p.2.2.2.2.2 1 1000 with
                    | false =>
                      have HF : Hid (cdE l = 1) := Lib.hid (by rw [H.out, HS3.out, if_pos (by simp [cdBadN, hp1])])
                      go_wp2_with fail
                      go_ret
                      exact ⟨by rw [HF.out]; rfl, hG5⟩
                    | true =>
                      have HF : Hid (cdErr ⟨#[]⟩ l = cdErr p.1 (l.drop (k + 1))) := Lib.hid (by rw [HS3.out, if_neg (by simp [cdBadN, HIN.out, HD.out, hp1, t3])])
                      clear hp1
                      go_wp2_with fail
                      go_roundw
                      case rel => exact ⟨k + 1, p.1, by omega, by go_num, rfl, HF.out, hG5⟩
                      case measure => simp [intOf]; omega
            | false =>
              have HEM := Lib.hid hem
              go_wp2_with fail
              refine (rkey_c _ _ hs2).mono ?_; rintro e w6 ⟨rfl, hG1⟩
              have hB5 := hB5.quiet hG1
              have hG5 := hG5.trans hG1
              clear hG1
              have c0 : w6.cell? ⟨g, 0, none⟩ = some (.string p.1) := hB5.cell 0
              have c1 : w6.cell? ⟨g, 1, none⟩ = some (.string p.2.1) := hB5.cell 1
              have c2 : w6.cell? ⟨g, 2, none⟩ = some (.int .i64 p.2.2.1) := hB5.cell 2
              have c3 : w6.cell? ⟨g, 3, none⟩ = some (.int .i64 p.2.2.2.1) := hB5.cell 3
              have c4 : w6.cell? ⟨g, 4, none⟩ = some (.int .i64 p.2.2.2.2.1) := hB5.cell 4
              have c5 : w6.cell? ⟨g, 5, none⟩ = some (.int .i64 p.2.2.2.2.2) := hB5.cell 5
              cases hkb : keyB p.2.1 with
              | false =>
                have HF : Hid (cdE l = 5) := Lib.hid (by rw [H.out, HS2.out, if_pos (by simp [HBC.out, HEM.out, hkb])])
                clear hkb
                go_wp2_with fail
                go_ret
                exact ⟨by rw [HF.out]; rfl, hG5⟩
              | true =>
                have HS3 : Hid (cdErr ⟨#[]⟩ l = if cdBadN p = true then 1 else cdErr p.1 (l.drop (k + 1))) := Lib.hid (by rw [HS2.out, if_neg (by simp [HBC.out, hkb])])
                clear HS2 HBC hkb
                go_wp2_with fail
                refine (in_c _ _ _ _).mono ?_; rintro e w' ⟨rfl, rfl⟩
                cases hin : inB p.2.2.1 0 p.2.2.2.1 with
                | false =>
                  have HF : Hid (cdE l = 1) := Lib.hid (by rw [H.out, HS3.out, if_pos (by simp [cdBadN, hin])])
                  go_wp2_with fail
                  go_ret
                  exact ⟨by rw [HF.out]; rfl, hG5⟩
                | true =>
                  have HIN := Lib.hid hin
                  clear hin
                  rcases (show 4001 < p.2.2.2.1 ∨ p.2.2.2.1 ≤ 4001 by omega) with t3 | t3
                  · have HF : Hid (cdE l = 1) := Lib.hid (by rw [H.out, HS3.out, if_pos (by rw [cdBadN, decide_eq_false (show ¬ p.2.2.2.1 ≤ 4001 by omega)]; simp)])
                    go_wp2_with fail
                    go_ret
                    exact ⟨by rw [HF.out]; rfl, hG5⟩
                  · have hn2 : ¬ 4001 < p.2.2.2.1 := by omega
                    go_wp2_with fail
                    refine (in_c _ _ _ _).mono ?_; rintro e w' ⟨rfl, rfl⟩
                    cases hd1 : inB p.2.2.2.2.1 1 120 with
                    | false =>
                      have HF : Hid (cdE l = 1) := Lib.hid (by rw [H.out, HS3.out, if_pos (by simp [cdBadN, hd1])])
                      go_wp2_with fail
                      go_ret
                      exact ⟨by rw [HF.out]; rfl, hG5⟩
                    | true =>
                      have HD := Lib.hid hd1
                      clear hd1
                      go_wp2_with fail
                      refine (in_c _ _ _ _).mono ?_; rintro e w' ⟨rfl, rfl⟩
                      cases hp1 : inB p.2.2.2.2.2 1 1000 with
                      | false =>
                        have HF : Hid (cdE l = 1) := Lib.hid (by rw [H.out, HS3.out, if_pos (by simp [cdBadN, hp1])])
                        go_wp2_with fail
                        go_ret
                        exact ⟨by rw [HF.out]; rfl, hG5⟩
                      | true =>
                        have HF : Hid (cdErr ⟨#[]⟩ l = cdErr p.1 (l.drop (k + 1))) := Lib.hid (by rw [HS3.out, if_neg (by simp [cdBadN, HIN.out, HD.out, hp1, t3])])
                        clear hp1
                        go_wp2_with fail
                        go_roundw
                        case rel => exact ⟨k + 1, p.1, by omega, by go_num, rfl, HF.out, hG5⟩
                        case measure => simp [intOf]; omega
      · obtain rfl : k = l.length := by omega
        have HE2 : Hid (cdE l = 0) := Lib.hid (by rw [H.out, HE.out, List.drop_length]; rfl)
        go_wp2_with fail
        go_ret
        exact ⟨by rw [HE2.out]; rfl, hG⟩
end Go.Proofs.YtndeidcddlmhbaaDoor

/- Rows of structs that a call owns, of whatever make; prefixes of lists of strings. No program. -/
namespace Go.Proofs.YtndeidcddlmhbaaDoor
open Go.RowKit

abbrev OwnX {α : Type} (T : TypeId) (z : Nat) (c : α → Array Value) (w : World) (base : Nat) (v : Value) (l : List α) : Prop := w.ownsRow base T z v l.length (rowL c l)
structure RowOk {α : Type} (P : Program) (T TS : TypeId) (z bytes : Nat) (zv : Value) (c : α → Array Value) : Prop where
  row : (P.info? T).map (fun i => (i.zero, i.size, i.bytes)) = some (some zv, z, bytes)
  slice : P.underlying TS = some (.slice T)
  one : ∀ r, ∀ u ∈ (c r).toList, u.oneCell' = true
  sz : ∀ p, (c p).size = z
  zv : zv.cells.size = z
  pos : 0 < z
  few : bytes ≤ 100000
section
variable {α : Type} {T : TypeId} {z : Nat} {c : α → Array Value}
theorem bk_at {w : World} {g : Nat} {cs : Array Value} (h : Bk w g T cs) : ∀ j u, cs.toList[j]? = some u → w.cell? ((⟨g, 0, none⟩ : Addr).add j) = some u := fun j u hu => by
  rw [add_at, Nat.zero_add, h.cell]
  simpa using hu
theorem wp_append_x {P : Program} {TS : TypeId} {bytes : Nat} {zv : Value} (hk : RowOk P T TS z bytes zv c) {w : World} {o : Oper} {a : Act} {K : Act → World → Prop} {Q : Exit → Act → World → Prop} (s x : Operand)
    (ho : o.op = .call { callee := .builtin .append, args := #[s, x], argTypes := #[TS, TS] }) (base : Nat) (v : Value) (l : List α) (hs : a.eval s = v) (hown : OwnX T z c w base v l)
    (g : Nat) (r : α) (hx : a.eval x = .slice (some ⟨g, 0, none⟩) 1 1) (hb : Bk w g T (c r)) (hl : l.length ≤ 1000) (hbase : base ≤ w.heap.size)
    (hK : ∀ v' w', OwnX T z c w' base v' (l ++ [r]) → w.grownBy w' v.ownBlock → K (a.put o.dst v') w') : o.wp P a w K Q := by
  obtain ⟨i0, hi, hz0, hz1, hz2⟩ := info_parts hk.row
  have hm : (l.length + 1) * bytes ≤ 1001 * 100000 := Nat.mul_le_mul (by omega) hk.few
  refine wp_append_own w s x TS ho base T i0 zv z bytes hk.slice hi hz0 hz1 hz2 hk.zv hk.pos v l.length (rowL c l) hs hown ⟨g, 0, none⟩ 1 1 (c r).toList hx (by rw [Array.length_toList, hk.sz, Nat.one_mul]) (bk_at hb) (hk.one r) (by unfold maxLen; omega) (by omega) hbase ?_
  intro v' w' h1 h2 _
  refine hK v' w' ?_ h2
  unfold OwnX
  rw [List.length_append, rowL_snoc]
  exact h1
theorem OwnX.alloc {w : World} {base : Nat} {v : Value} {l : List α} (h : OwnX T z c w base v l) (o : Obj) : OwnX T z c (w.alloc o) base v l := World.ownsRow.alloc h o
theorem OwnX.kept {w w' : World} {base : Nat} {v : Value} {l : List α} {s : Nat} (h : OwnX T z c w base v l) (hg : G w w' (some s)) (hs : s < base) : OwnX T z c w' base v l := by
  refine World.ownsRow.kept h hg (.inr fun e => ?_)
  have := (World.ownsRow.lt h s e).1
  omega
theorem OwnX.quiet {w w' : World} {base : Nat} {v : Value} {l : List α} (h : OwnX T z c w base v l) (hg : G w w' none) : OwnX T z c w' base v l := World.ownsRow.kept h hg (Classical.em _)
theorem OwnX.drew {w : World} {base : Nat} {v : Value} {l : List α} (h : OwnX T z c w base v l) : OwnX T z c w.drew base v l := h.quiet ((G.refl w none).drew)
theorem OwnX.ne {w : World} {base : Nat} {v : Value} {l : List α} (h : OwnX T z c w base v l) {r : Nat} (hr : r < base ∨ w.heap.size ≤ r) : some r ≠ v.ownBlock := fun e => by
  have := World.ownsRow.lt h r e.symm
  omega
theorem OwnX.far {w : World} {base : Nat} {v : Value} {l : List α} (h : OwnX T z c w base v l) {p : Addr} (hp : some p.block ≠ v.ownBlock) (u : Value) : OwnX T z c (w.setCell p u) base v l := World.ownsRow.kept h (grownBy_setCell_row w p u) (.inr hp.symm)
theorem OwnX.low {w : World} {base : Nat} {v : Value} {l : List α} (h : OwnX T z c w base v l) : ∀ r, v.ownBlock = some r → base ≤ r := fun r e => (World.ownsRow.lt h r e).1
theorem OwnX.down {w : World} {base b : Nat} {v : Value} {l : List α} (h : OwnX T z c w base v l) (hb : b ≤ base) : OwnX T z c w b v l := by
  obtain ⟨h1, h2⟩ := h
  rcases h2 with ⟨rfl, h3⟩ | ⟨g, cap, cur, rfl, h3, h4, h5, h6, h7, h8⟩
  · exact ⟨h1, .inl ⟨rfl, h3⟩⟩
  · exact ⟨h1, .inr ⟨g, cap, cur, rfl, Nat.le_trans hb h3, h4, h5, h6, h7, h8⟩⟩
theorem OwnX.set (hz : ∀ p, (c p).size = z) {w : World} {base g n cap : Nat} {l : List α} {k : Nat} {p q : α} (h : w.ownsRow base T z (.slice (some ⟨g, 0, none⟩) n cap) n (rowL c l)) (hp : l[k]? = some p) (j : Nat) (u : Value) (hj : j < z) (hq : (c q).toList = (c p).toList.set j u) :
    (w.setCell ⟨g, k * z + j, none⟩ u).ownsRow base T z (.slice (some ⟨g, 0, none⟩) n cap) n (rowL c (l.set k q)) := by
  rw [← rowL_set hz l k p q hp j u hj hq]
  exact ownsRow_set h _ _
end
/-- The first of a list of strings. -/
theorem rdS_prefix {w : World} {a : Option Addr} {n cap : Nat} {l : List ByteArray} (h : Rd w 1 (.slice a n cap) l.length (l.map Value.string)) (m : Nat) (hm : m ≤ l.length) : Rd w 1 (.slice a m cap) (l.take m).length ((l.take m).map Value.string) := by
  obtain ⟨a', c', e, h1, h2, h3, h4, h5⟩ := h
  obtain ⟨rfl, rfl, rfl⟩ : a = a' ∧ n = l.length ∧ cap = c' := by cases e; exact ⟨rfl, rfl, rfl⟩
  have hlt : (l.take m).length = m := by rw [List.length_take]; omega
  refine ⟨a, cap, by rw [hlt], by omega, h2, by simp, fun e => ⟨by have := (h4 e).1; omega, (h4 e).2⟩, fun b hb => ?_⟩
  obtain ⟨q1, q2, q3⟩ := h5 b hb
  refine ⟨q1, q2, fun j u hj => q3 j u ?_⟩
  rw [List.map_take] at hj
  rw [← hj, List.getElem?_take]
  have hjl := (List.getElem?_eq_some_iff.1 hj).1
  simp at hjl
  rw [if_pos (by omega)]
end Go.Proofs.YtndeidcddlmhbaaDoor

/- slices.Index, Contains, Equal at lists of strings; the classes' own IndexFunc. -/
namespace Go.Proofs.YtndeidcddlmhbaaDoor
open Go.RowKit

/-- A list of strings. -/
abbrev RdS (w : World) (v : Value) (l : List ByteArray) : Prop := Rd w 1 v l.length (l.map Value.string)
theorem rdS_cell {w : World} {a : Addr} {l : List ByteArray} {n c : Nat} (h : Rd w 1 (.slice (some a) n c) n (l.map Value.string)) : ∃ b o, a = ⟨b, o, none⟩ ∧ b < w.heap.size ∧ ∀ (j : Nat) (s : ByteArray), l[j]? = some s → w.cell? ⟨b, o + j, none⟩ = some (.string s) := by
  obtain ⟨a', c', e', _, _, _, _, h5⟩ := h
  injection e' with e1 e2 e3
  subst e1
  obtain ⟨b, o, sp⟩ := a
  obtain ⟨q1, q2, q3⟩ := h5 _ rfl
  dsimp only at q1 q2 q3
  subst q1
  exact ⟨b, o, rfl, q2, fun j s hj => q3 j _ (by rw [List.getElem?_map, hj]; rfl)⟩
/-- The first place of a string, from 'k' on counted; -1: none. -/
def idxF (t : ByteArray) : List ByteArray → Int → Int
  | [], _ => -1
  | s :: r, k => if eqB t s = true then k else idxF t r (k + 1)
def IxRel (l : List ByteArray) (t : ByteArray) (i : Value) : Prop := ∃ k : Nat, k ≤ l.length ∧ i = .int .i64 k ∧ idxF t l 0 = idxF t (l.drop k) k
set_option maxRecDepth 100000 in
set_option maxHeartbeats 1000000 in
theorem sIndex_c (v : Value) (l : List ByteArray) (t : ByteArray) (w : World) (hr : RdS w v l) (hn : l.length ≤ 1000000) :
    Calls Tryd.prog 151 #[v, .string t] w fun e w' => e = .returned (.int .i64 (idxF t l 0)) ∧ w = w' := by
  have hr0 := hr
  obtain ⟨a, cap, rfl, hcap, hm, hlen, hnil, _⟩ := hr
  go_enter Tryd.func151, Tryd.ntmps151
  go_wp2_with fail
  go_loop [8] (IxRel l t) (fun i => l.length - (intOf i).toNat)
  case atStart => exact ⟨0, by omega, rfl, rfl⟩
  case round =>
    obtain ⟨k, hk, rfl, heq⟩ := hrel
    have HE := Lib.hid heq
    clear heq
    by_cases hlt : k < l.length
    · obtain ⟨s, hs⟩ : ∃ s, l[k]? = some s := ⟨_, List.getElem?_eq_getElem hlt⟩
      have HD : Hid (idxF t l 0 = if eqB t s = true then (k : Int) else idxF t (l.drop (k + 1)) ((k : Int) + 1)) := Lib.hid (by
        rw [HE.out, List.drop_eq_getElem_cons hlt, (List.getElem?_eq_some_iff.1 hs).2]; rfl)
      cases a with
      | none => have := (hnil rfl).1; omega
      | some ad =>
        obtain ⟨bb, bo, rfl, hbb, hcell⟩ := rdS_cell hr0
        have hc := hcell k s hs
        clear hcell hnil hs hr0
        cases he : eqB t s with
        | true =>
          have HF : Hid (idxF t l 0 = k) := Lib.hid (by rw [HD.out, if_pos he])
          unfold eqB at he
          go_wp2_with fail
          go_ret
          exact ⟨ret_int HF.out.symm, rfl⟩
        | false =>
          have HF : Hid (idxF t l 0 = idxF t (l.drop (k + 1)) ((k + 1 : Nat) : Int)) := Lib.hid (by rw [HD.out, if_neg (by simp [he])]; rfl)
          unfold eqB at he
          go_wp2_with fail
          go_round
          case rel => exact ⟨k + 1, by omega, by go_num, HF.out⟩
          case measure => simp [intOf]; omega
    · obtain rfl : k = l.length := by omega
      have HF : Hid (idxF t l 0 = -1) := Lib.hid (by rw [HE.out, List.drop_length]; rfl)
      go_wp2_with fail
      go_ret
      exact ⟨ret_int HF.out.symm, rfl⟩
theorem eqB_comm (a b : ByteArray) : eqB a b = eqB b a := by
  rw [Bool.eq_iff_iff, eqB_iff, eqB_iff]
  exact ⟨fun h => h.symm, fun h => h.symm⟩
theorem idxF_range (t : ByteArray) (l : List ByteArray) : ∀ k : Nat, idxF t l k = -1 ∨ ((k : Int) ≤ idxF t l k ∧ idxF t l k < k + l.length) := by
  induction l with
  | nil => intro k; exact .inl rfl
  | cons s r ih =>
    intro k
    unfold idxF
    split
    · right; simp; omega
    · rcases ih (k + 1) with h | h
      · left; exact h
      · right
        have e : idxF t r ((k : Int) + 1) = idxF t r ((k + 1 : Nat) : Int) := rfl
        rw [e]
        simp only [List.length_cons]
        omega
theorem idxF_has (t : ByteArray) (l : List ByteArray) : ∀ k : Nat, (0 ≤ idxF t l k) ↔ hasK l t = true := by
  induction l with
  | nil => intro k; simp [idxF, hasK]
  | cons s r ih =>
    intro k
    unfold idxF hasK
    rw [List.any_cons, eqB_comm t s]
    cases he : eqB s t with
    | true => simp
    | false =>
      have := ih (k + 1)
      unfold hasK at this
      simpa using this
theorem sContains_c (v : Value) (l : List ByteArray) (t : ByteArray) (w : World) (hr : RdS w v l) (hn : l.length ≤ 1000000) :
    Calls Tryd.prog 107 #[v, .string t] w fun e w' => e = .returned (.bool (hasK l t)) ∧ w = w' := by
  have hh := idxF_has t l 0
  have hg := idxF_range t l 0
  have HX := Lib.hid (sIndex_c v l t w hr hn)
  have h0 : idxF t l 0 = idxF t l ((0 : Nat) : Int) := rfl
  rw [← h0] at hh hg
  clear hr h0
  generalize idxF t l 0 = x at hh HX hg
  cases hb : hasK l t with
  | true =>
    have hx := hh.2 hb
    clear hh hb
    go_enter Tryd.func107, Tryd.ntmps107
    go_wp2_with fail
    refine HX.out.mono ?_; rintro e w' ⟨rfl, rfl⟩
    go_wp2_with fail
    go_ret
    exact ⟨rfl, rfl⟩
  | false =>
    have hx : x < 0 := by
      rcases Int.lt_or_le x 0 with h | h
      · exact h
      · rw [hh.1 h] at hb; cases hb
    clear hh hb
    go_enter Tryd.func107, Tryd.ntmps107
    go_wp2_with fail
    refine HX.out.mono ?_; rintro e w' ⟨rfl, rfl⟩
    go_wp2_with fail
    go_ret
    exact ⟨ret_bool (decide_eq_false (by omega)), rfl⟩
def EqRel (n : Nat) (w : World) (i : Value) (wr : World) : Prop := ∃ k m : Nat, k ≤ n ∧ i = .int .i64 k ∧ wr = w.drewN m
end Go.Proofs.YtndeidcddlmhbaaDoor

/- Generators: Codes, CodeKeys. -/
namespace Go.Proofs.YtndeidcddlmhbaaDoor
open Go.RowKit

theorem cd_one (r : Cd) : ∀ u ∈ (cdC r).toList, u.oneCell' = true := by
  intro u hu
  simp [cdC] at hu
  rcases hu with rfl | rfl | rfl | rfl | rfl | rfl <;> rfl
theorem cd_rowOk : RowOk Tryd.prog 157 86 6 64 (.agg (cdC (⟨#[]⟩, ⟨#[]⟩, 0, 0, 0, 0))) cdC := ⟨by kernel_rfl, Tryd.underlying86, cd_one, cdC_sz, rfl, by omega, by omega⟩
abbrev OwnCd (w : World) (base : Nat) (v : Value) (l : List Cd) : Prop := OwnX 157 6 cdC w base v l
theorem CdOk.snoc {l : List Cd} {r : Cd} (h : CdOk l) (hr : cdB r) : CdOk (l ++ [r]) := fun p hp => by
  rcases List.mem_append.1 hp with hp | hp
  · exact h p hp
  · obtain rfl := List.mem_singleton.1 hp
    exact hr
theorem CdOk.set {l : List Cd} (h : CdOk l) {r : Cd} (hr : cdB r) (k : Nat) : CdOk (l.set k r) := fun p hp => by
  rcases List.mem_or_eq_of_mem_set hp with hp | rfl
  · exact h p hp
  · exact hr
def cdKeys : Array Value := #[.string ⟨#[97, 49, 48]⟩, .string ⟨#[98, 50, 48]⟩, .string ⟨#[99, 51, 48]⟩]
theorem cdKeys_at (k : Nat) (hk : k < 3) : ∃ a : ByteArray, Small a ∧ cdKeys[k]? = some (.string a) := by
  match k, hk with
  | 0, _ => exact ⟨_, small_of (s := ⟨#[97, 49, 48]⟩) (by decide), rfl⟩
  | 1, _ => exact ⟨_, small_of (s := ⟨#[98, 50, 48]⟩) (by decide), rfl⟩
  | 2, _ => exact ⟨_, small_of (s := ⟨#[99, 51, 48]⟩) (by decide), rfl⟩
def CodesPost (s K : Nat) (w : World) (e : Ending) (w' : World) : Prop :=
  ∃ (v : Value) (l : List Cd), e = .returned v ∧ RdR w' 6 cdC v l ∧ CdOk l ∧ l.length ≤ 3 ∧ (∀ r, v.ownBlock = some r → w.heap.size ≤ r) ∧ SB w' s (K + 30) ∧ G w w' (some s)
theorem codes_fin {w w' : World} {s K : Nat} {v : Value} {l : List Cd} (hown : OwnCd w' (w.heap.size + 1) v l) (hl : CdOk l) (hn : l.length ≤ 3) (hSB : SB w' s (K + 30)) (hG : G w w' (some s)) : CodesPost s K w (.returned v) w' :=
  ⟨v, l, rfl, Rd.of_owns hown, hl, hn, fun r e => Nat.le_of_succ_le (World.ownsRow.lt hown r e).1, hSB, hG⟩
def CgRel (w : World) (s K : Nat) (s3 s10 : Value) (wr : World) : Prop :=
  ∃ (k : Nat) (l : List Cd), k ≤ 3 ∧ l.length ≤ k ∧ s10 = .int .i64 k ∧ OwnCd wr (w.heap.size + 1) s3 l ∧ CdOk l ∧ SB wr s (K + 6 * k) ∧ G w wr (some s) ∧ Bk wr w.heap.size 9 cdKeys
set_option maxRecDepth 100000 in
set_option maxHeartbeats 8000000 in
theorem codes_c (w : World) (s : Nat) (K : Nat) (hs : SB w s K) (hk : K ≤ 900000000000) :
    Calls Tryd.prog 51 #[.pointer (some ⟨s, 0, none⟩)] w (CodesPost s K w) := by
  have hsw := hs.lt
  have hsb : s < w.heap.size + 1 := Nat.lt_succ_of_lt hsw
  go_enter Tryd.func51, Tryd.ntmps51
  go_wp2_with fail
  go_loopw [3, 10] (CgRel w s K) (fun _ i _ => 3 - (intOf i).toNat)
  case atStart => exact ⟨0, [], by omega, by simp, rfl, World.ownsRow_nil _ _ _ _, fun p hp => (by cases hp), hs.alloc _, (G.refl _ _).alloc _, Bk.new w _ _⟩
  case round =>
    obtain ⟨k, l, hk3, hlk, rfl, hown, hl, hSB, hG, hB⟩ := hrel
    have HL := Lib.hid hl
    clear hl hs
    by_cases hk2 : k < 3
    · obtain ⟨key, hkey, hpa⟩ := cdKeys_at k hk2
      have hrow : wr.cell? ⟨w.heap.size, k, none⟩ = some (.string key) := by rw [hB.cell]; exact hpa
      have hBl := hB.lt
      clear hpa
      go_wp2_with fail
      refine (flip_c _ _ _ _ hSB (by omega) (by omega)).mono ?_; rintro e w2 ⟨q, rfl, hSB2, hG2⟩
      have hown2 := OwnX.kept hown hG2 hsb
      have hB2 := hB.grown hG2 (fun e => by have := Option.some.inj e; omega)
      have hG02 := hG.trans hG2
      clear hown hB hG hG2 hSB hrow
      cases q with
      | true =>
        go_wp2_with fail
        go_roundw
        case rel => exact ⟨k + 1, l, by omega, by omega, by go_num, hown2, HL.out, hSB2.le (by omega), hG02, hB2⟩
        case measure => simp [intOf]; omega
      | false =>
        go_wp2_with fail
        refine (pick_c _ _ _ [0, 0, 3] _ _ _ (hSB2.alloc _) (by omega) (by decide) (by decide) (Rd.newAt _ rfl rfl (by decide)) (hSB2.newAt _ _ _ (Nat.le_refl _))).mono ?_; rintro e w3 ⟨f, rfl, hp, hSB3, hg⟩
        have hf0 : 0 ≤ f ∧ f ≤ 3 := by simp only [List.mem_cons, List.mem_nil_iff, or_false] at hp; omega
        obtain ⟨f0, f1⟩ := hf0
        have hown3 := OwnX.kept (OwnX.alloc hown2 (.cells _ 3)) hg hsb
        have hB3 := (hB2.alloc (.cells _ 3)).grown hg (fun e => by have := Option.some.inj e; omega)
        have hG03 := (hG02.alloc (.cells _ 3)).trans hg
        clear hown2 hB2 hG02 hSB2 hg hp
        go_wp2_with fail
        refine (some_c _ _ _ [⟨#[]⟩, ⟨#[]⟩, ⟨#[109, 105, 110, 105]⟩] _ _ _ (hSB3.alloc _) (by omega) (by decide) (by decide) (Rd.newAt _ rfl rfl (by decide)) (hSB3.newAt _ _ _ (Nat.le_refl _))).mono ?_; rintro e w4 ⟨cl, rfl, hp, hSB4, hg⟩
        have hcl := small_pick hp (by decide)
        have hown4 := OwnX.kept (OwnX.alloc hown3 (.cells _ 9)) hg hsb
        have hB4 := (hB3.alloc (.cells _ 9)).grown hg (fun e => by have := Option.some.inj e; omega)
        have hG04 := (hG03.alloc (.cells _ 9)).trans hg
        clear hown3 hB3 hG03 hSB3 hg hp
        go_wp2_with fail
        refine (pick_c _ _ _ [0, 1, 10, 3000] _ _ _ (hSB4.alloc _) (by omega) (by decide) (by decide) (Rd.newAt _ rfl rfl (by decide)) (hSB4.newAt _ _ _ (Nat.le_refl _))).mono ?_; rintro e w5 ⟨t, rfl, hp, hSB5, hg⟩
        have ht0 : 0 ≤ t ∧ t ≤ 3000 := by simp only [List.mem_cons, List.mem_nil_iff, or_false] at hp; omega
        obtain ⟨t0, t1⟩ := ht0
        have hown5 := OwnX.kept (OwnX.alloc hown4 (.cells _ 3)) hg hsb
        have hB5 := (hB4.alloc (.cells _ 3)).grown hg (fun e => by have := Option.some.inj e; omega)
        have hG05 := (hG04.alloc (.cells _ 3)).trans hg
        clear hown4 hB4 hG04 hSB4 hg hp
        go_wp2_with fail
        refine (pick_c _ _ _ [1, 1, 2, 5] _ _ _ (hSB5.alloc _) (by omega) (by decide) (by decide) (Rd.newAt _ rfl rfl (by decide)) (hSB5.newAt _ _ _ (Nat.le_refl _))).mono ?_; rintro e w6 ⟨d, rfl, hp, hSB6, hg⟩
        have bd := Lib.hid (bnd_pick hp (by decide))
        have hown6 := OwnX.kept (OwnX.alloc hown5 (.cells _ 3)) hg hsb
        have hB6 := (hB5.alloc (.cells _ 3)).grown hg (fun e => by have := Option.some.inj e; omega)
        have hG06 := (hG05.alloc (.cells _ 3)).trans hg
        clear hown5 hB5 hG05 hSB5 hg hp
        go_wp2_with fail
        refine (pick_c _ _ _ [1, 100, 100, 250, 1000] _ _ _ (hSB6.alloc _) (by omega) (by decide) (by decide) (Rd.newAt _ rfl rfl (by decide)) (hSB6.newAt _ _ _ (Nat.le_refl _))).mono ?_; rintro e w7 ⟨m, rfl, hp, hSB7, hg⟩
        have bm := Lib.hid (bnd_pick hp (by decide))
        have hown7 := OwnX.kept (OwnX.alloc hown6 (.cells _ 3)) hg hsb
        have hB7 := (hB6.alloc (.cells _ 3)).grown hg (fun e => by have := Option.some.inj e; omega)
        have hG07 := (hG06.alloc (.cells _ 3)).trans hg
        clear hown6 hB6 hG06 hSB6 hg hp
        have hsz := hG07.size
        have hBl7 := hB7.lt
        have HRB : Hid (cdB (key, cl, f, f + t, d, m)) := Lib.hid ⟨hkey, hcl, (by show bnd f; unfold bnd; omega), (by show bnd (f + t); unfold bnd; omega), bd.out, bm.out⟩
        have hownA := OwnX.alloc hown7 (.cells #[.string key, .string cl, .int .i64 f, .int .i64 (f + t), .int .i64 d, .int .i64 m] 157)
        go_wp2_with (at_builtin; refine wpList_plain rfl fun K' hK' => wp_append_x cd_rowOk _ _ rfl (w.heap.size + 1) u3 l rfl hownA w7.heap.size (key, cl, f, f + t, d, m) rfl (Bk.new w7 _ _) (by omega) (by simp; omega) ?_; intro v8 w8 hown8 hgrow; refine hK' _ _ ?_)
        have hob := OwnX.low hown7
        go_roundw
        case rel => exact ⟨k + 1, l ++ [(key, cl, f, f + t, d, m)], by omega, by simp; omega, by go_num, hown8, HL.out.snoc HRB.out, ((hSB7.alloc _).own hgrow (fun r e => Nat.lt_of_lt_of_le hsb (hob r e))).le (by omega), (hG07.alloc _).other hgrow (fun r e => .inl (Nat.le_of_succ_le (hob r e))), (hB7.alloc _).grown hgrow (OwnX.ne hown7 (.inl (Nat.lt_succ_self _)))⟩
        case measure => simp [intOf]; omega
    · obtain rfl : k = 3 := by omega
      have hBl := hB.lt
      have hf := hown.2
      rcases hf with ⟨rfl, hn0⟩ | ⟨g, cap, cur, rfl, hbg, _, hnc, hmc, _, _⟩
      · clear hn0
        go_wp2_with fail
        go_ret
        exact codes_fin hown HL.out (by omega) (hSB.le (by omega)) hG
      · by_cases h0 : l.length = 0
        · have h0i : ¬ ((0 : Int) < (l.length : Int)) := by omega
          clear h0
          go_wp2_with fail
          go_ret
          exact codes_fin hown HL.out (by omega) (hSB.le (by omega)) hG
        · have h0i : ((0 : Int) < (l.length : Int)) := by omega
          have hsg : s < g := by omega
          have hgw : w.heap.size ≤ g := by omega
          clear h0
          go_wp2_with fail
          refine (flip_c _ _ _ _ hSB (by omega) (by omega)).mono ?_; rintro e w2 ⟨b, rfl, hSB2, hG2⟩
          have hown2 := OwnX.kept hown hG2 hsb
          have hG02 := hG.trans hG2
          clear hown hG hG2 hSB hB
          cases b with
          | false =>
            go_wp2_with fail
            go_ret
            exact codes_fin hown2 HL.out (by omega) (hSB2.le (by omega)) hG02
          | true =>
            go_wp2_with fail
            refine (next_c _ _ _ _ hSB2 (by omega) (by omega)).mono ?_; rintro e w3 ⟨j, rfl, hj, hSB3, hG3⟩
            obtain ⟨j0, j1⟩ := hj
            obtain ⟨j, rfl⟩ := Int.eq_ofNat_of_zero_le j0
            have jl : j < l.length := by omega
            have jli : (j : Int) < (l.length : Int) := by omega
            clear j1
            have hown3 := OwnX.kept hown2 hG3 hsb
            have hG03 := hG02.trans hG3
            clear hown2 hG02 hG3 hSB2
            obtain ⟨p, hp⟩ : ∃ p, l[j]? = some p := ⟨_, List.getElem?_eq_getElem jl⟩
            have HP := Lib.hid hp
            have hpb := Lib.hid (HL.out p (List.mem_of_getElem? hp))
            clear hp
            have c0 := RdR.cell cdC_sz (Rd.of_owns hown3) (G.refl _ _) HP.out 0 (.string p.1) rfl
            simp only [Nat.zero_add, Nat.add_zero] at c0
            go_wp2_with fail
            refine (some_c _ _ _ [p.1, ⟨#[]⟩, ⟨#[122, 101, 100]⟩, ⟨#[97, 49, 48]⟩] _ _ _ (hSB3.alloc _) (by omega) (by decide) (by decide) (Rd.newAt _ rfl rfl (by decide)) (hSB3.newAt _ _ _ (Nat.le_refl _))).mono ?_; rintro e w4 ⟨r, rfl, hr, hSB4, hG4⟩
            have hrs : Small r := by
              simp only [List.mem_cons, List.mem_nil_iff, or_false] at hr
              rcases hr with rfl | rfl | rfl | rfl
              · exact hpb.out.1
              · exact small_of (by decide)
              · exact small_of (by decide)
              · exact small_of (by decide)
            have hown4 := OwnX.kept (OwnX.alloc hown3 _) hG4 hsb
            have hG04 := (hG03.alloc _).trans hG4
            clear hr hown3 hSB3 hG03 hG4 c0
            go_wp2_with fail
            refine (odd_c _ _ _ _ _ hSB4 (by omega) (by omega) (by omega) (by omega) (by omega)).mono ?_; rintro e w5 ⟨y1, rfl, y10, y11, hSB5, hG5⟩
            have hown5 := OwnX.kept hown4 hG5 hsb
            have hG05 := hG04.trans hG5
            clear hown4 hSB4 hG04 hG5
            go_wp2_with fail
            refine (odd_c _ _ _ _ _ hSB5 (by omega) (by omega) (by omega) (by omega) (by omega)).mono ?_; rintro e w6 ⟨y2, rfl, y20, y21, hSB6, hG6⟩
            have hown6 := OwnX.kept hown5 hG6 hsb
            have hG06 := hG05.trans hG6
            clear hown5 hSB5 hG05 hG6
            have c0 := RdR.cell cdC_sz (Rd.of_owns hown6) (G.refl _ _) HP.out 0 (.string p.1) rfl
            have c4 := RdR.cell cdC_sz (Rd.of_owns hown6) (G.refl _ _) HP.out 4 (.int .i64 p.2.2.2.2.1) rfl
            have c5 := RdR.cell cdC_sz (Rd.of_owns hown6) (G.refl _ _) HP.out 5 (.int .i64 p.2.2.2.2.2) rfl
            have f0 := ownsRow_free hown6 (j * 6 + 0)
            have f4 := ownsRow_free hown6 (j * 6 + 4)
            have f5 := ownsRow_free hown6 (j * 6 + 5)
            have hown7 := OwnX.set cdC_sz hown6 HP.out (q := (r, p.2)) 0 (.string r) (by omega) rfl
            have hown8 := OwnX.set cdC_sz hown7 (show (l.set j (r, p.2))[j]? = some (r, p.2) by rw [List.getElem?_set_self jl]) (q := (r, p.2.1, p.2.2.1, p.2.2.2.1, y1, p.2.2.2.2.2)) 4 (.int .i64 y1) (by omega) rfl
            rw [List.set_set] at hown8
            have hown9 := OwnX.set cdC_sz hown8 (show (l.set j (r, p.2.1, p.2.2.1, p.2.2.2.1, y1, p.2.2.2.2.2))[j]? = some (r, p.2.1, p.2.2.1, p.2.2.2.1, y1, p.2.2.2.2.2) by rw [List.getElem?_set_self jl]) (q := (r, p.2.1, p.2.2.1, p.2.2.2.1, y1, y2)) 5 (.int .i64 y2) (by omega) rfl
            rw [List.set_set] at hown9
            simp only [Nat.zero_add, Nat.add_zero] at c0 c4 c5 f0 hown9
            clear hown7 hown8
            go_wp2_with fail
            go_ret
            exact codes_fin (l := l.set j (r, p.2.1, p.2.2.1, p.2.2.2.1, y1, y2)) (by unfold OwnCd OwnX; rw [List.length_set]; exact hown9) (HL.out.set (r := (r, p.2.1, p.2.2.1, p.2.2.2.1, y1, y2)) ⟨hrs, hpb.out.2.1, hpb.out.2.2.1, hpb.out.2.2.2.1, ⟨y10, y11⟩, ⟨y20, y21⟩⟩ j) (by rw [List.length_set]; omega) ((((hSB6.setCell (p := ⟨g, j * 6, none⟩) hsg _).setCell (p := ⟨g, j * 6 + 4, none⟩) hsg _).setCell (p := ⟨g, j * 6 + 5, none⟩) hsg _).le (by omega)) (((hG06.setCell (p := ⟨g, j * 6, none⟩) (.inl hgw) _).setCell (p := ⟨g, j * 6 + 4, none⟩) (.inl hgw) _).setCell (p := ⟨g, j * 6 + 5, none⟩) (.inl hgw) _)
def CodeKeysPost (s K : Nat) (w : World) (e : Ending) (w' : World) : Prop :=
  ∃ (v : Value) (l : List ByteArray), e = .returned v ∧ RdS w' v l ∧ l.length ≤ 3 ∧ (∀ r, v.ownBlock = some r → w.heap.size ≤ r) ∧ SB w' s (K + 1) ∧ G w w' (some s)
def ckOut (g : Nat) : Array Value := #[.slice none 0 0, .slice (some ⟨g, 0, none⟩) 1 1, .slice (some ⟨g + 1, 0, none⟩) 2 2, .slice (some ⟨g + 2, 0, none⟩) 3 3, .slice (some ⟨g + 3, 0, none⟩) 1 1, .slice (some ⟨g + 4, 0, none⟩) 2 2]
theorem ck_r0 {w : World} {g : Nat} (h : Bk w g 9 #[.string ⟨#[97, 49, 48]⟩]) : RdS w (.slice (some ⟨g, 0, none⟩) 1 1) [⟨#[97, 49, 48]⟩] := h.rd 1 1 rfl (by omega)
theorem ck_r1 {w : World} {g : Nat} (h : Bk w g 9 #[.string ⟨#[98, 50, 48]⟩, .string ⟨#[97, 49, 48]⟩]) : RdS w (.slice (some ⟨g, 0, none⟩) 2 2) [⟨#[98, 50, 48]⟩, ⟨#[97, 49, 48]⟩] := h.rd 1 2 rfl (by omega)
theorem ck_r2 {w : World} {g : Nat} (h : Bk w g 9 #[.string ⟨#[99, 51, 48]⟩, .string ⟨#[98, 50, 48]⟩, .string ⟨#[97, 49, 48]⟩]) : RdS w (.slice (some ⟨g, 0, none⟩) 3 3) [⟨#[99, 51, 48]⟩, ⟨#[98, 50, 48]⟩, ⟨#[97, 49, 48]⟩] := h.rd 1 3 rfl (by omega)
theorem ck_r3 {w : World} {g : Nat} (h : Bk w g 9 #[.string ⟨#[110, 111, 110, 101]⟩]) : RdS w (.slice (some ⟨g, 0, none⟩) 1 1) [⟨#[110, 111, 110, 101]⟩] := h.rd 1 1 rfl (by omega)
theorem ck_r4 {w : World} {g : Nat} (h : Bk w g 9 #[.string ⟨#[97, 49, 48]⟩, .string ⟨#[97, 49, 48]⟩]) : RdS w (.slice (some ⟨g, 0, none⟩) 2 2) [⟨#[97, 49, 48]⟩, ⟨#[97, 49, 48]⟩] := h.rd 1 2 rfl (by omega)
theorem ck_nil (w : World) : RdS w (.slice none 0 0) [] := ⟨none, 0, rfl, Nat.le_refl _, Nat.zero_le _, rfl, fun _ => ⟨rfl, rfl⟩, fun b hb => by cases hb⟩
theorem ckOut_at {w : World} {g : Nat} (h0 : Bk w (g) 9 #[.string ⟨#[97, 49, 48]⟩]) (h1 : Bk w (g + 1) 9 #[.string ⟨#[98, 50, 48]⟩, .string ⟨#[97, 49, 48]⟩]) (h2 : Bk w (g + 2) 9 #[.string ⟨#[99, 51, 48]⟩, .string ⟨#[98, 50, 48]⟩, .string ⟨#[97, 49, 48]⟩]) (h3 : Bk w (g + 3) 9 #[.string ⟨#[110, 111, 110, 101]⟩]) (h4 : Bk w (g + 4) 9 #[.string ⟨#[97, 49, 48]⟩, .string ⟨#[97, 49, 48]⟩]) (j : Nat) (hj : j < 6) :
    ∃ (v : Value) (l : List ByteArray), (ckOut g)[j]? = some v ∧ RdS w v l ∧ l.length ≤ 3 ∧ (∀ r, v.ownBlock = some r → g ≤ r) := by
  match j, hj with
  | 0, _ => exact ⟨_, [], rfl, ck_nil w, by decide, fun r e => by cases e⟩
  | 1, _ => exact ⟨_, _, rfl, ck_r0 h0, by decide, fun r e => by obtain rfl := Option.some.inj e; dsimp only; omega⟩
  | 2, _ => exact ⟨_, _, rfl, ck_r1 h1, by decide, fun r e => by obtain rfl := Option.some.inj e; dsimp only; omega⟩
  | 3, _ => exact ⟨_, _, rfl, ck_r2 h2, by decide, fun r e => by obtain rfl := Option.some.inj e; dsimp only; omega⟩
  | 4, _ => exact ⟨_, _, rfl, ck_r3 h3, by decide, fun r e => by obtain rfl := Option.some.inj e; dsimp only; omega⟩
  | 5, _ => exact ⟨_, _, rfl, ck_r4 h4, by decide, fun r e => by obtain rfl := Option.some.inj e; dsimp only; omega⟩
set_option maxRecDepth 100000 in
set_option maxHeartbeats 4000000 in
theorem codeKeys_c (w : World) (s : Nat) (K : Nat) (hs : SB w s K) (hk : K ≤ 900000000000) :
    Calls Tryd.prog 52 #[.pointer (some ⟨s, 0, none⟩)] w (CodeKeysPost s K w) := by
  have hslt := hs.lt
  have h0 : Bk ((((((w.alloc (.cells #[.string ⟨#[97, 49, 48]⟩] 9)).alloc (.cells #[.string ⟨#[98, 50, 48]⟩, .string ⟨#[97, 49, 48]⟩] 9)).alloc (.cells #[.string ⟨#[99, 51, 48]⟩, .string ⟨#[98, 50, 48]⟩, .string ⟨#[97, 49, 48]⟩] 9)).alloc (.cells #[.string ⟨#[110, 111, 110, 101]⟩] 9)).alloc (.cells #[.string ⟨#[97, 49, 48]⟩, .string ⟨#[97, 49, 48]⟩] 9)).alloc (.cells #[.slice none 0 0, .slice (some ⟨w.heap.size, 0, none⟩) 1 1, .slice (some ⟨w.heap.size + 1, 0, none⟩) 2 2, .slice (some ⟨w.heap.size + 2, 0, none⟩) 3 3, .slice (some ⟨w.heap.size + 3, 0, none⟩) 1 1, .slice (some ⟨w.heap.size + 4, 0, none⟩) 2 2] 88)) (w.heap.size) 9 #[.string ⟨#[97, 49, 48]⟩] := ((((((Bk.newAt (w := w) (b := w.heap.size) (by simp) 9 #[.string ⟨#[97, 49, 48]⟩]).alloc _).alloc _).alloc _).alloc _).alloc _)
  have h1 : Bk ((((((w.alloc (.cells #[.string ⟨#[97, 49, 48]⟩] 9)).alloc (.cells #[.string ⟨#[98, 50, 48]⟩, .string ⟨#[97, 49, 48]⟩] 9)).alloc (.cells #[.string ⟨#[99, 51, 48]⟩, .string ⟨#[98, 50, 48]⟩, .string ⟨#[97, 49, 48]⟩] 9)).alloc (.cells #[.string ⟨#[110, 111, 110, 101]⟩] 9)).alloc (.cells #[.string ⟨#[97, 49, 48]⟩, .string ⟨#[97, 49, 48]⟩] 9)).alloc (.cells #[.slice none 0 0, .slice (some ⟨w.heap.size, 0, none⟩) 1 1, .slice (some ⟨w.heap.size + 1, 0, none⟩) 2 2, .slice (some ⟨w.heap.size + 2, 0, none⟩) 3 3, .slice (some ⟨w.heap.size + 3, 0, none⟩) 1 1, .slice (some ⟨w.heap.size + 4, 0, none⟩) 2 2] 88)) (w.heap.size + 1) 9 #[.string ⟨#[98, 50, 48]⟩, .string ⟨#[97, 49, 48]⟩] := (((((Bk.newAt (w := (w.alloc (.cells #[.string ⟨#[97, 49, 48]⟩] 9))) (b := w.heap.size + 1) (by simp) 9 #[.string ⟨#[98, 50, 48]⟩, .string ⟨#[97, 49, 48]⟩]).alloc _).alloc _).alloc _).alloc _)
  have h2 : Bk ((((((w.alloc (.cells #[.string ⟨#[97, 49, 48]⟩] 9)).alloc (.cells #[.string ⟨#[98, 50, 48]⟩, .string ⟨#[97, 49, 48]⟩] 9)).alloc (.cells #[.string ⟨#[99, 51, 48]⟩, .string ⟨#[98, 50, 48]⟩, .string ⟨#[97, 49, 48]⟩] 9)).alloc (.cells #[.string ⟨#[110, 111, 110, 101]⟩] 9)).alloc (.cells #[.string ⟨#[97, 49, 48]⟩, .string ⟨#[97, 49, 48]⟩] 9)).alloc (.cells #[.slice none 0 0, .slice (some ⟨w.heap.size, 0, none⟩) 1 1, .slice (some ⟨w.heap.size + 1, 0, none⟩) 2 2, .slice (some ⟨w.heap.size + 2, 0, none⟩) 3 3, .slice (some ⟨w.heap.size + 3, 0, none⟩) 1 1, .slice (some ⟨w.heap.size + 4, 0, none⟩) 2 2] 88)) (w.heap.size + 2) 9 #[.string ⟨#[99, 51, 48]⟩, .string ⟨#[98, 50, 48]⟩, .string ⟨#[97, 49, 48]⟩] := ((((Bk.newAt (w := ((w.alloc (.cells #[.string ⟨#[97, 49, 48]⟩] 9)).alloc (.cells #[.string ⟨#[98, 50, 48]⟩, .string ⟨#[97, 49, 48]⟩] 9))) (b := w.heap.size + 2) (by simp) 9 #[.string ⟨#[99, 51, 48]⟩, .string ⟨#[98, 50, 48]⟩, .string ⟨#[97, 49, 48]⟩]).alloc _).alloc _).alloc _)
  have h3 : Bk ((((((w.alloc (.cells #[.string ⟨#[97, 49, 48]⟩] 9)).alloc (.cells #[.string ⟨#[98, 50, 48]⟩, .string ⟨#[97, 49, 48]⟩] 9)).alloc (.cells #[.string ⟨#[99, 51, 48]⟩, .string ⟨#[98, 50, 48]⟩, .string ⟨#[97, 49, 48]⟩] 9)).alloc (.cells #[.string ⟨#[110, 111, 110, 101]⟩] 9)).alloc (.cells #[.string ⟨#[97, 49, 48]⟩, .string ⟨#[97, 49, 48]⟩] 9)).alloc (.cells #[.slice none 0 0, .slice (some ⟨w.heap.size, 0, none⟩) 1 1, .slice (some ⟨w.heap.size + 1, 0, none⟩) 2 2, .slice (some ⟨w.heap.size + 2, 0, none⟩) 3 3, .slice (some ⟨w.heap.size + 3, 0, none⟩) 1 1, .slice (some ⟨w.heap.size + 4, 0, none⟩) 2 2] 88)) (w.heap.size + 3) 9 #[.string ⟨#[110, 111, 110, 101]⟩] := (((Bk.newAt (w := (((w.alloc (.cells #[.string ⟨#[97, 49, 48]⟩] 9)).alloc (.cells #[.string ⟨#[98, 50, 48]⟩, .string ⟨#[97, 49, 48]⟩] 9)).alloc (.cells #[.string ⟨#[99, 51, 48]⟩, .string ⟨#[98, 50, 48]⟩, .string ⟨#[97, 49, 48]⟩] 9))) (b := w.heap.size + 3) (by simp) 9 #[.string ⟨#[110, 111, 110, 101]⟩]).alloc _).alloc _)
  have h4 : Bk ((((((w.alloc (.cells #[.string ⟨#[97, 49, 48]⟩] 9)).alloc (.cells #[.string ⟨#[98, 50, 48]⟩, .string ⟨#[97, 49, 48]⟩] 9)).alloc (.cells #[.string ⟨#[99, 51, 48]⟩, .string ⟨#[98, 50, 48]⟩, .string ⟨#[97, 49, 48]⟩] 9)).alloc (.cells #[.string ⟨#[110, 111, 110, 101]⟩] 9)).alloc (.cells #[.string ⟨#[97, 49, 48]⟩, .string ⟨#[97, 49, 48]⟩] 9)).alloc (.cells #[.slice none 0 0, .slice (some ⟨w.heap.size, 0, none⟩) 1 1, .slice (some ⟨w.heap.size + 1, 0, none⟩) 2 2, .slice (some ⟨w.heap.size + 2, 0, none⟩) 3 3, .slice (some ⟨w.heap.size + 3, 0, none⟩) 1 1, .slice (some ⟨w.heap.size + 4, 0, none⟩) 2 2] 88)) (w.heap.size + 4) 9 #[.string ⟨#[97, 49, 48]⟩, .string ⟨#[97, 49, 48]⟩] := ((Bk.newAt (w := ((((w.alloc (.cells #[.string ⟨#[97, 49, 48]⟩] 9)).alloc (.cells #[.string ⟨#[98, 50, 48]⟩, .string ⟨#[97, 49, 48]⟩] 9)).alloc (.cells #[.string ⟨#[99, 51, 48]⟩, .string ⟨#[98, 50, 48]⟩, .string ⟨#[97, 49, 48]⟩] 9)).alloc (.cells #[.string ⟨#[110, 111, 110, 101]⟩] 9))) (b := w.heap.size + 4) (by simp) 9 #[.string ⟨#[97, 49, 48]⟩, .string ⟨#[97, 49, 48]⟩]).alloc _)
  have ho : Bk ((((((w.alloc (.cells #[.string ⟨#[97, 49, 48]⟩] 9)).alloc (.cells #[.string ⟨#[98, 50, 48]⟩, .string ⟨#[97, 49, 48]⟩] 9)).alloc (.cells #[.string ⟨#[99, 51, 48]⟩, .string ⟨#[98, 50, 48]⟩, .string ⟨#[97, 49, 48]⟩] 9)).alloc (.cells #[.string ⟨#[110, 111, 110, 101]⟩] 9)).alloc (.cells #[.string ⟨#[97, 49, 48]⟩, .string ⟨#[97, 49, 48]⟩] 9)).alloc (.cells #[.slice none 0 0, .slice (some ⟨w.heap.size, 0, none⟩) 1 1, .slice (some ⟨w.heap.size + 1, 0, none⟩) 2 2, .slice (some ⟨w.heap.size + 2, 0, none⟩) 3 3, .slice (some ⟨w.heap.size + 3, 0, none⟩) 1 1, .slice (some ⟨w.heap.size + 4, 0, none⟩) 2 2] 88)) (w.heap.size + 5) 88 (ckOut w.heap.size) := Bk.newAt (w := (((((w.alloc (.cells #[.string ⟨#[97, 49, 48]⟩] 9)).alloc (.cells #[.string ⟨#[98, 50, 48]⟩, .string ⟨#[97, 49, 48]⟩] 9)).alloc (.cells #[.string ⟨#[99, 51, 48]⟩, .string ⟨#[98, 50, 48]⟩, .string ⟨#[97, 49, 48]⟩] 9)).alloc (.cells #[.string ⟨#[110, 111, 110, 101]⟩] 9)).alloc (.cells #[.string ⟨#[97, 49, 48]⟩, .string ⟨#[97, 49, 48]⟩] 9))) (b := w.heap.size + 5) (by simp) 88 (ckOut w.heap.size)
  have hSB : SB ((((((w.alloc (.cells #[.string ⟨#[97, 49, 48]⟩] 9)).alloc (.cells #[.string ⟨#[98, 50, 48]⟩, .string ⟨#[97, 49, 48]⟩] 9)).alloc (.cells #[.string ⟨#[99, 51, 48]⟩, .string ⟨#[98, 50, 48]⟩, .string ⟨#[97, 49, 48]⟩] 9)).alloc (.cells #[.string ⟨#[110, 111, 110, 101]⟩] 9)).alloc (.cells #[.string ⟨#[97, 49, 48]⟩, .string ⟨#[97, 49, 48]⟩] 9)).alloc (.cells #[.slice none 0 0, .slice (some ⟨w.heap.size, 0, none⟩) 1 1, .slice (some ⟨w.heap.size + 1, 0, none⟩) 2 2, .slice (some ⟨w.heap.size + 2, 0, none⟩) 3 3, .slice (some ⟨w.heap.size + 3, 0, none⟩) 1 1, .slice (some ⟨w.heap.size + 4, 0, none⟩) 2 2] 88)) s K := hs.quiet (G.alloc (G.alloc (G.alloc (G.alloc (G.alloc (G.alloc (G.refl w none) _) _) _) _) _) _)
  have hG : G w ((((((w.alloc (.cells #[.string ⟨#[97, 49, 48]⟩] 9)).alloc (.cells #[.string ⟨#[98, 50, 48]⟩, .string ⟨#[97, 49, 48]⟩] 9)).alloc (.cells #[.string ⟨#[99, 51, 48]⟩, .string ⟨#[98, 50, 48]⟩, .string ⟨#[97, 49, 48]⟩] 9)).alloc (.cells #[.string ⟨#[110, 111, 110, 101]⟩] 9)).alloc (.cells #[.string ⟨#[97, 49, 48]⟩, .string ⟨#[97, 49, 48]⟩] 9)).alloc (.cells #[.slice none 0 0, .slice (some ⟨w.heap.size, 0, none⟩) 1 1, .slice (some ⟨w.heap.size + 1, 0, none⟩) 2 2, .slice (some ⟨w.heap.size + 2, 0, none⟩) 3 3, .slice (some ⟨w.heap.size + 3, 0, none⟩) 1 1, .slice (some ⟨w.heap.size + 4, 0, none⟩) 2 2] 88)) (some s) := G.alloc (G.alloc (G.alloc (G.alloc (G.alloc (G.alloc (G.refl w (some s)) _) _) _) _) _) _
  have hz : ((((((w.alloc (.cells #[.string ⟨#[97, 49, 48]⟩] 9)).alloc (.cells #[.string ⟨#[98, 50, 48]⟩, .string ⟨#[97, 49, 48]⟩] 9)).alloc (.cells #[.string ⟨#[99, 51, 48]⟩, .string ⟨#[98, 50, 48]⟩, .string ⟨#[97, 49, 48]⟩] 9)).alloc (.cells #[.string ⟨#[110, 111, 110, 101]⟩] 9)).alloc (.cells #[.string ⟨#[97, 49, 48]⟩, .string ⟨#[97, 49, 48]⟩] 9)).alloc (.cells #[.slice none 0 0, .slice (some ⟨w.heap.size, 0, none⟩) 1 1, .slice (some ⟨w.heap.size + 1, 0, none⟩) 2 2, .slice (some ⟨w.heap.size + 2, 0, none⟩) 3 3, .slice (some ⟨w.heap.size + 3, 0, none⟩) 1 1, .slice (some ⟨w.heap.size + 4, 0, none⟩) 2 2] 88)).heap.size = w.heap.size + 6 := by simp
  go_enter Tryd.func52, Tryd.ntmps52
  go_wp2_with fail
  generalize ((((((w.alloc (.cells #[.string ⟨#[97, 49, 48]⟩] 9)).alloc (.cells #[.string ⟨#[98, 50, 48]⟩, .string ⟨#[97, 49, 48]⟩] 9)).alloc (.cells #[.string ⟨#[99, 51, 48]⟩, .string ⟨#[98, 50, 48]⟩, .string ⟨#[97, 49, 48]⟩] 9)).alloc (.cells #[.string ⟨#[110, 111, 110, 101]⟩] 9)).alloc (.cells #[.string ⟨#[97, 49, 48]⟩, .string ⟨#[97, 49, 48]⟩] 9)).alloc (.cells #[.slice none 0 0, .slice (some ⟨w.heap.size, 0, none⟩) 1 1, .slice (some ⟨w.heap.size + 1, 0, none⟩) 2 2, .slice (some ⟨w.heap.size + 2, 0, none⟩) 3 3, .slice (some ⟨w.heap.size + 3, 0, none⟩) 1 1, .slice (some ⟨w.heap.size + 4, 0, none⟩) 2 2] 88)) = w8 at h0 h1 h2 h3 h4 ho hSB hG hz ⊢
  refine (pick_c _ _ _ [0, 1, 1, 2, 2, 3, 4, 5] _ _ K (hSB.alloc _) (by omega) (by decide) (by decide) (Rd.newAt _ hz rfl (by decide)) (hSB.newAt _ _ _ (Nat.le_of_eq hz))).mono ?_; rintro e w2 ⟨a, rfl, ha, hSB2, hG2⟩
  have ha0 : 0 ≤ a ∧ a < 6 := by simp only [List.mem_cons, List.mem_nil_iff, or_false] at ha; omega
  obtain ⟨a0, a1⟩ := ha0
  obtain ⟨j, rfl⟩ := Int.eq_ofNat_of_zero_le a0
  have hj : j < 6 := by omega
  have hf : ∀ i : Nat, i < 7 → some (w.heap.size + i) ≠ some s := fun i _ e => by have := Option.some.inj e; omega
  obtain ⟨v, l, hv, hrd, hln, hvb⟩ := ckOut_at (w := w2) (g := w.heap.size) ((h0.alloc _).grown hG2 (hf 0 (by omega))) ((h1.alloc _).grown hG2 (hf 1 (by omega))) ((h2.alloc _).grown hG2 (hf 2 (by omega))) ((h3.alloc _).grown hG2 (hf 3 (by omega))) ((h4.alloc _).grown hG2 (hf 4 (by omega))) j hj
  have ho2 : Bk w2 (w.heap.size + 5) 88 (ckOut w.heap.size) := (ho.alloc _).grown hG2 (hf 5 (by omega))
  have hcell : w2.cell? ⟨w.heap.size + 5, j, none⟩ = some v := (ho2.cell j).trans hv
  have hG02 := (hG.alloc _).trans hG2
  clear h0 h1 h2 h3 h4 ho hSB hG hG2 ho2 hv ha hf
  go_wp2_with fail
  go_ret
  exact ⟨v, l, rfl, hrd, hln, hvb, hSB2, hG02⟩
end Go.Proofs.YtndeidcddlmhbaaDoor
