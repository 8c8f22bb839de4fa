/- The reference's ClassAt (slices.IndexFunc with a closure), Ups. -/
import Derived.Test.YtjjgohainbjecaaDoorLad
namespace Go.Proofs.YtjjgohainbjecaaDoor
open Go.RowKit

/-- The first place of one that is asked for, from 'k' on counted; -1: none. -/
def ixP {α : Type} (q : α → Bool) : List α → Int → Int
  | [], _ => -1
  | p :: r, k => if q p = true then k else ixP q r (k + 1)
def clAt (l : List Cla) (s : ByteArray) : Int := ixP (fun p => eqB p.1 s) l 0
theorem ixP_spec {α : Type} (q : α → Bool) (l : List α) : ∀ k : Nat, (ixP q l k = -1 ∧ l.any q = false) ∨ ∃ (i : Nat) (p : α), ixP q l k = ((k + i : Nat) : Int) ∧ l[i]? = some p ∧ q p = true := by
  induction l with
  | nil => intro k; exact .inl ⟨rfl, rfl⟩
  | cons p r ih =>
    intro k
    unfold ixP
    by_cases h : q p = true
    · rw [if_pos h]
      exact .inr ⟨0, p, rfl, rfl, h⟩
    · rw [if_neg h]
      rcases ih (k + 1) with ⟨h1, h2⟩ | ⟨i, p', h1, h2, h3⟩
      · left
        exact ⟨h1, by rw [List.any_cons, h2]; simp [h]⟩
      · right
        refine ⟨i + 1, p', ?_, by simpa using h2, h3⟩
        have e : ixP q r ((k : Int) + 1) = ixP q r ((k + 1 : Nat) : Int) := rfl
        rw [e, h1]
        congr 1
        omega
theorem clAt_spec (l : List Cla) (s : ByteArray) : (clAt l s = -1 ∧ upS l s = none) ∨ ∃ (i : Nat) (p : Cla), clAt l s = (i : Int) ∧ l[i]? = some p ∧ p.1 = s := by
  rcases ixP_spec (fun p : Cla => eqB p.1 s) l 0 with ⟨h1, h2⟩ | ⟨i, p, h1, h2, h3⟩
  · refine .inl ⟨h1, upS_none fun hm => ?_⟩
    obtain ⟨p, hp, e⟩ := List.mem_map.1 hm
    have : l.any (fun p => eqB p.1 s) = true := List.any_eq_true.2 ⟨p, hp, eqB_iff.2 e⟩
    rw [h2] at this
    cases this
  · refine .inr ⟨i, p, ?_, h2, eqB_iff.1 h3⟩
    rw [Nat.zero_add] at h1
    exact h1
theorem clAt_neg (l : List Cla) (s : ByteArray) : decide (clAt l s < 0) = !(upS l s).isSome := by
  rcases clAt_spec l s with ⟨h1, h2⟩ | ⟨i, p, h1, h2, h3⟩
  · rw [h1, h2]; rfl
  · rw [h1, upS_isSome, show hasK (ksC l) s = true from hasK_iff.2 (List.mem_map.2 ⟨p, List.mem_of_getElem? h2, h3⟩)]
    simp
theorem closure_c (p : Cla) (t : ByteArray) (g : Nat) (w : World) (hB : Bk w g 9 #[.string t]) : Calls Tryd.prog 27 #[.agg (clC p), .pointer (some ⟨g, 0, none⟩)] w fun e w' => e = .returned (.bool (eqB p.1 t)) ∧ G w w' none := by
  have hc := (Bk.new w 48 (clC p)).cell 0
  rw [show (clC p)[0]? = some (.string p.1) from rfl] at hc
  have hc2 := (hB.alloc (.cells (clC p) 48)).cell 0
  rw [show (#[Value.string t] : Array Value)[0]? = some (.string t) from rfl] at hc2
  cases he : eqB p.1 t with
  | true =>
    unfold eqB at he
    go_enter Tryd.func27, Tryd.ntmps27
    go_wp2_with fail
    go_ret
    exact ⟨rfl, (G.refl _ _).alloc _⟩
  | false =>
    unfold eqB at he
    go_enter Tryd.func27, Tryd.ntmps27
    go_wp2_with fail
    go_ret
    exact ⟨rfl, (G.refl _ _).alloc _⟩
def IxfRel (w : World) (l : List Cla) (t : ByteArray) (i : Value) (wr : World) : Prop :=
  ∃ k : Nat, k ≤ l.length ∧ i = .int .i64 k ∧ clAt l t = ixP (fun p : Cla => eqB p.1 t) (l.drop k) k ∧ G w wr none
set_option maxRecDepth 100000 in
set_option maxHeartbeats 2000000 in
theorem indexFunc_c (v : Value) (l : List Cla) (t : ByteArray) (g : Nat) (w : World) (hr : Rd w 2 v l.length (clL l)) (hn : l.length ≤ 1000) (hB : Bk w g 9 #[.string t]) :
    Calls Tryd.prog 26 #[v, .func (.func 27) #[] #[.pointer (some ⟨g, 0, none⟩)]] w fun e w' => e = .returned (.int .i64 (clAt l t)) ∧ G w w' none := by
  obtain ⟨a, cap, rfl, hcap, hm, hlen, hnil, hcell⟩ := hr
  go_enter Tryd.func26, Tryd.ntmps26
  go_wp2_with fail
  go_loopw [8] (IxfRel w l t) (fun i _ => l.length - (intOf i).toNat)
  case atStart => exact ⟨0, by omega, rfl, rfl, G.refl _ _⟩
  case round =>
    obtain ⟨k, hk, rfl, heq, hG⟩ := hrel
    have HE := Lib.hid heq
    clear heq
    by_cases hlt : k < l.length
    · obtain ⟨p, hp⟩ : ∃ p, l[k]? = some p := ⟨_, List.getElem?_eq_getElem hlt⟩
      have HD : Hid (clAt l t = if eqB p.1 t = true then (k : Int) else ixP (fun p : Cla => eqB p.1 t) (l.drop (k + 1)) ((k : Int) + 1)) := Lib.hid (by
        rw [HE.out, List.drop_eq_getElem_cons hlt, (List.getElem?_eq_some_iff.1 hp).2]; rfl)
      cases a with
      | none => have := (hnil rfl).1; omega
      | some ad =>
        obtain ⟨bb, bo, bs⟩ := ad
        obtain ⟨e1, e2, e3⟩ := hcell _ rfl
        dsimp only at e1 e2 e3
        subst e1
        have hrow : ∀ j v, (clC p).toList[j]? = some v → wr.cell? ((⟨bb, bo + k * 2, none⟩ : Addr).add j) = some v := by
          intro j v hv
          rw [add_at]
          have h1 := e3 (k * 2 + j) v (clL_at l k p hp j v hv)
          rw [← Nat.add_assoc] at h1
          exact ((gcell hG).1 bb _ e2).trans h1
        have HR := Lib.hid hrow
        clear hrow hcell e3 hnil hp
        go_wp2_with (refine wpList_load_at rfl 48 _ rfl ⟨bb, bo + k * 2, none⟩ rfl (clC p) _ HR.out Tryd.underlying48 rfl (cl_info p) ?_)
        refine (closure_c p t g _ (hB.quiet hG)).mono ?_; rintro e w1 ⟨rfl, hG1⟩
        cases he : eqB p.1 t with
        | true =>
          have HF : Hid (clAt l t = k) := Lib.hid (by rw [HD.out, if_pos he])
          clear he
          go_wp2_with fail
          go_ret
          exact ⟨ret_int HF.out.symm, hG.trans hG1⟩
        | false =>
          have HF : Hid (clAt l t = ixP (fun p : Cla => eqB p.1 t) (l.drop (k + 1)) ((k + 1 : Nat) : Int)) := Lib.hid (by rw [HD.out, if_neg (by simp [he])]; rfl)
          clear he
          go_wp2_with fail
          go_roundw
          case rel => exact ⟨k + 1, by omega, by go_num, HF.out, hG.trans hG1⟩
          case measure => simp [intOf]; omega
    · obtain rfl : k = l.length := by omega
      have HF : Hid (clAt l t = -1) := Lib.hid (by rw [HE.out, List.drop_length]; rfl)
      go_wp2_with fail
      go_ret
      exact ⟨ret_int HF.out.symm, hG⟩
set_option maxRecDepth 100000 in
set_option maxHeartbeats 1000000 in
theorem classAt_c (v : Value) (l : List Cla) (t : ByteArray) (w : World) (hr : Rd w 2 v l.length (clL l)) (hn : l.length ≤ 1000) :
    Calls Tryd.prog 11 #[v, .string t] w fun e w' => e = .returned (.int .i64 (clAt l t)) ∧ G w w' none := by
  have hmf : ∀ (fn : Go.Fn) (first cap : Array Value) (w : World), (Instr.makeFunc fn first cap).run Tryd.prog w = .ok (.func fn first cap) w := fun _ _ _ _ => rfl
  have HR := Lib.hid hr
  clear hr
  go_enter Tryd.func11, Tryd.ntmps11
  go_wp2_with fail
  refine (indexFunc_c v l t w.heap.size _ (HR.out.quiet ((G.refl _ _).alloc _)) hn (Bk.new w _ _)).mono ?_; rintro e w1 ⟨rfl, hG1⟩
  go_wp2_with fail
  go_ret
  exact ⟨rfl, ((G.refl w none).alloc _).trans hG1⟩
end Go.Proofs.YtjjgohainbjecaaDoor
