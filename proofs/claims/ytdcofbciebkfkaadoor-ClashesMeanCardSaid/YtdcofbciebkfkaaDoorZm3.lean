/- Mee, Chg, Kpt, Kla. -/
import Derived.Test.YtdcofbciebkfkaaDoorZm2
import Derived.Deep.CutRange
import Derived.Deep.LoopGhost
import Derived.Deep.RegionHeld3
import Derived.Deep.MidRow
/- Clashes: where legs of two hires meet (hire.meeting, whatever function says which are alike). Its drawn regions are written by genmee.py. -/
namespace Go.Proofs.YtdcofbciebkfkaaDoor
open Go.RowKit

/-- Two legs meet, and are alike. -/
def ckP (al : Lg → Lg → Bool) (x y : Lg) : Bool := decide (max x.2.1.1 y.2.1.1 < min (toL x) (toL y)) && al x y
def meO (al : Lg → Lg → Bool) : List Lg → List Lg → Option Int
  | [], _ => none
  | _ :: _, [] => none
  | x :: a, y :: b => if ckP al x y = true then some (max x.2.1.1 y.2.1.1) else if toL x ≤ toL y then meO al a (y :: b) else meO al (x :: a) b
termination_by a b => a.length + b.length
theorem RdR.tail {α : Type} {w : World} {z : Nat} {c : α → Array Value} {a : Option Addr} {n cap : Nat} {x : α} {l : List α} (hz : ∀ p, (c p).size = z) (h : RdR w z c (.slice a (n + 1) cap) (x :: l)) :
    RdR w z c (.slice (if cap = 1 then a else a.map (·.add (1 * z))) (n + 1 - 1) (cap - 1)) l := by
  obtain ⟨a', c', e, h1, h2, h3, h4, h5⟩ := h
  simp only [List.length_cons] at e h1
  obtain ⟨rfl, rfl, rfl⟩ : a = a' ∧ n = l.length ∧ cap = c' := by cases e; exact ⟨rfl, rfl, rfl⟩
  refine ⟨_, _, rfl, by omega, by omega, rowL_len hz _, fun e => ?_, fun b hb => ?_⟩
  · split at e
    · have := (h4 e).1; simp at this
    · cases a with
      | none => have := (h4 rfl).1; simp at this
      | some ad => simp at e
  · by_cases hc : cap = 1
    · rw [if_pos hc] at hb
      obtain ⟨q1, q2, q3⟩ := h5 b hb
      have hl0 : l = [] := List.eq_nil_of_length_eq_zero (by omega)
      subst hl0
      exact ⟨q1, q2, fun j u hj => by simp [rowL] at hj⟩
    · rw [if_neg hc] at hb
      cases a with
      | none => simp at hb
      | some ad =>
        obtain ⟨q1, q2, q3⟩ := h5 ad rfl
        obtain ⟨bb, bo, bs⟩ := ad
        dsimp only at q1 q2 q3
        subst q1
        simp only [Option.map_some, Option.some.injEq] at hb
        rw [add_at] at hb
        subst hb
        refine ⟨rfl, q2, fun j u hj => ?_⟩
        have := q3 (z + j) u (by rw [rowL_cons, List.getElem?_append_right (by rw [Array.length_toList, hz]; omega)]; rw [Array.length_toList, hz, show z + j - z = j by omega]; exact hj)
        dsimp only at this ⊢
        rw [show bo + 1 * z + j = bo + (z + j) by omega]
        exact this
def MeRel (w : World) (al : Lg → Lg → Bool) (la lb : List Lg) (gk : Nat) (s0 s1 : Value) (wr : World) : Prop :=
  ∃ (x y : List Lg), gk = x.length + y.length ∧ x.length ≤ 1000 ∧ y.length ≤ 1000 ∧ meO al la lb = meO al x y ∧ RdR w 9 lgC s0 x ∧ RdR w 9 lgC s1 y ∧ G w wr none
def MeW (w0 : World) (p q : Lg) (s8 s9 : Value) (w' : World) : Prop :=
  ∃ g8 g9, s8 = .pointer (some ⟨g8, 0, none⟩) ∧ s9 = .pointer (some ⟨g9, 0, none⟩) ∧ Bk w' g8 30 #[.int .i64 p.2.1.1, .int .i64 (toL p)] ∧ Bk w' g9 30 #[.int .i64 q.2.1.1, .int .i64 (toL q)] ∧ G w0 w' none
set_option maxRecDepth 100000 in
set_option maxHeartbeats 20000000 in
theorem meeting_c (F : FuncId) (caps : Array Value) (al : Lg → Lg → Bool) (v0 v1 : Value) (la lb : List Lg) (w : World) (hcf : ∀ (args : Array Value) (w : World), (callFunc F args).run Tryd.prog w = .ok (.enter F args) w)
    (hal : ∀ (p q : Lg) (w' : World), G w w' none → Calls Tryd.prog F (#[.agg #[.string p.1, .int .i64 p.2.1.1, .string p.2.1.2.1, .int .i64 p.2.1.2.2.1, .int .i64 p.2.1.2.2.2, .int .i64 p.2.2.1, .string p.2.2.2.1, .int .i64 p.2.2.2.2.1, .int .i64 p.2.2.2.2.2], .agg #[.string q.1, .int .i64 q.2.1.1, .string q.2.1.2.1, .int .i64 q.2.1.2.2.1, .int .i64 q.2.1.2.2.2, .int .i64 q.2.2.1, .string q.2.2.2.1, .int .i64 q.2.2.2.2.1, .int .i64 q.2.2.2.2.2]] ++ caps) w' fun e w'' => e = .returned (.bool (al p q)) ∧ G w' w'' none)
    (hra : RdR w 9 lgC v0 la) (hrb : RdR w 9 lgC v1 lb) (hna : la.length ≤ 1000) (hnb : lb.length ≤ 1000) :
    Calls Tryd.prog 150 #[v0, v1, .func (.func F) #[] caps] w fun e w' => e = .returned (.tuple #[.int .i64 ((meO al la lb).getD 0), .bool (meO al la lb).isSome]) ∧ G w w' none := by
  have HAL := Lib.hid hal
  obtain ⟨N, hN⟩ : ∃ N, (meO al la lb).getD 0 = N := ⟨_, rfl⟩
  obtain ⟨B, hB⟩ : ∃ B, (meO al la lb).isSome = B := ⟨_, rfl⟩
  have HN := Lib.hid hN.symm
  have HB := Lib.hid hB.symm
  rw [hN, hB]
  clear hN hB hal
  go_enter Tryd.func150, Tryd.ntmps150
  go_wp2_with fail
  go_loopg [0, 1] (la.length + lb.length) (fun gk s0 s1 wr => MeRel w al la lb gk s0 s1 wr)
  case atStart => exact ⟨la, lb, rfl, hna, hnb, rfl, hra, hrb, G.refl _ _⟩
  case round =>
    clear hra hrb hna hnb
    obtain ⟨x, y, rfl, hnx, hny, heq, hx, hy, hG⟩ := hrel
    have HE := Lib.hid heq
    clear heq
    obtain ⟨ax, cx, rfl, hcx, hmx⟩ := RdR.form hx
    obtain ⟨ay, cy, rfl, hcy, hmy⟩ := RdR.form hy
    match x, hx, HE, hcx, hnx with
    | [], hx, HE, hcx, hnx =>
      have hO : meO al la lb = none := by rw [HE.out, meO]
      obtain rfl : N = 0 := by rw [HN.out, hO]; rfl
      obtain rfl : B = false := by rw [HB.out, hO]; rfl
      clear HN HB HE hO
      go_wp2_with fail
      go_ret2
      exact ⟨rfl, hG⟩
    | p :: x, hx, HE, hcx, hnx =>
      have hxi : (0 : Int) < ((p :: x).length : Int) := by rw [List.length_cons]; omega
      match y, hy, HE, hcy, hny with
      | [], hy, HE, hcy, hny =>
        have hO : meO al la lb = none := by rw [HE.out, meO]
        obtain rfl : N = 0 := by rw [HN.out, hO]; rfl
        obtain rfl : B = false := by rw [HB.out, hO]; rfl
        clear HN HB HE hO
        go_wp2_with fail
        go_ret2
        exact ⟨rfl, hG⟩
      | q :: y, hy, HE, hcy, hny =>
        have hyi : (0 : Int) < ((q :: y).length : Int) := by rw [List.length_cons]; omega
        obtain ⟨b1, o1, rfl, -, -⟩ := RdR.elem lgC_sz hx (G.refl w none) (k := 0) (p := p) rfl
        obtain ⟨b2, o2, rfl, -, -⟩ := RdR.elem lgC_sz hy (G.refl w none) (k := 0) (p := q) rfl
        have HX := Lib.hid hx
        have HY := Lib.hid hy
        have HD : Hid (meO al la lb = if ckP al p q = true then some (max p.2.1.1 q.2.1.1) else if toL p ≤ toL q then meO al x (q :: y) else meO al (p :: x) y) := Lib.hid (by rw [HE.out, meO])
        have HS : Hid (∀ w', G wr w' none → (fun w' : World => w'.cell? ⟨b1, o1, none⟩ = some (.string p.1) ∧ w'.cell? ⟨b1, o1 + 1, none⟩ = some (.int .i64 p.2.1.1) ∧ w'.cell? ⟨b1, o1 + 2, none⟩ = some (.string p.2.1.2.1) ∧ w'.cell? ⟨b1, o1 + 3, none⟩ = some (.int .i64 p.2.1.2.2.1) ∧ w'.cell? ⟨b1, o1 + 4, none⟩ = some (.int .i64 p.2.1.2.2.2) ∧ w'.cell? ⟨b1, o1 + 5, none⟩ = some (.int .i64 p.2.2.1) ∧ w'.cell? ⟨b1, o1 + 6, none⟩ = some (.string p.2.2.2.1) ∧ w'.cell? ⟨b1, o1 + 7, none⟩ = some (.int .i64 p.2.2.2.2.1) ∧ w'.cell? ⟨b1, o1 + 8, none⟩ = some (.int .i64 p.2.2.2.2.2) ∧ w'.cell? ⟨b2, o2, none⟩ = some (.string q.1) ∧ w'.cell? ⟨b2, o2 + 1, none⟩ = some (.int .i64 q.2.1.1) ∧ w'.cell? ⟨b2, o2 + 2, none⟩ = some (.string q.2.1.2.1) ∧ w'.cell? ⟨b2, o2 + 3, none⟩ = some (.int .i64 q.2.1.2.2.1) ∧ w'.cell? ⟨b2, o2 + 4, none⟩ = some (.int .i64 q.2.1.2.2.2) ∧ w'.cell? ⟨b2, o2 + 5, none⟩ = some (.int .i64 q.2.2.1) ∧ w'.cell? ⟨b2, o2 + 6, none⟩ = some (.string q.2.2.2.1) ∧ w'.cell? ⟨b2, o2 + 7, none⟩ = some (.int .i64 q.2.2.2.2.1) ∧ w'.cell? ⟨b2, o2 + 8, none⟩ = some (.int .i64 q.2.2.2.2.2)) w') := Lib.hid fun w' hg => by
          have hg := hG.trans hg
          refine ⟨by have := RdR.cell lgC_sz hx hg (k := 0) (p := p) rfl 0 (.string p.1) rfl; simpa using this, by have := RdR.cell lgC_sz hx hg (k := 0) (p := p) rfl 1 (.int .i64 p.2.1.1) rfl; simpa using this, by have := RdR.cell lgC_sz hx hg (k := 0) (p := p) rfl 2 (.string p.2.1.2.1) rfl; simpa using this, by have := RdR.cell lgC_sz hx hg (k := 0) (p := p) rfl 3 (.int .i64 p.2.1.2.2.1) rfl; simpa using this, by have := RdR.cell lgC_sz hx hg (k := 0) (p := p) rfl 4 (.int .i64 p.2.1.2.2.2) rfl; simpa using this, by have := RdR.cell lgC_sz hx hg (k := 0) (p := p) rfl 5 (.int .i64 p.2.2.1) rfl; simpa using this, by have := RdR.cell lgC_sz hx hg (k := 0) (p := p) rfl 6 (.string p.2.2.2.1) rfl; simpa using this, by have := RdR.cell lgC_sz hx hg (k := 0) (p := p) rfl 7 (.int .i64 p.2.2.2.2.1) rfl; simpa using this, by have := RdR.cell lgC_sz hx hg (k := 0) (p := p) rfl 8 (.int .i64 p.2.2.2.2.2) rfl; simpa using this, by have := RdR.cell lgC_sz hy hg (k := 0) (p := q) rfl 0 (.string q.1) rfl; simpa using this, by have := RdR.cell lgC_sz hy hg (k := 0) (p := q) rfl 1 (.int .i64 q.2.1.1) rfl; simpa using this, by have := RdR.cell lgC_sz hy hg (k := 0) (p := q) rfl 2 (.string q.2.1.2.1) rfl; simpa using this, by have := RdR.cell lgC_sz hy hg (k := 0) (p := q) rfl 3 (.int .i64 q.2.1.2.2.1) rfl; simpa using this, by have := RdR.cell lgC_sz hy hg (k := 0) (p := q) rfl 4 (.int .i64 q.2.1.2.2.2) rfl; simpa using this, by have := RdR.cell lgC_sz hy hg (k := 0) (p := q) rfl 5 (.int .i64 q.2.2.1) rfl; simpa using this, by have := RdR.cell lgC_sz hy hg (k := 0) (p := q) rfl 6 (.string q.2.2.2.1) rfl; simpa using this, by have := RdR.cell lgC_sz hy hg (k := 0) (p := q) rfl 7 (.int .i64 q.2.2.2.2.1) rfl; simpa using this, by have := RdR.cell lgC_sz hy hg (k := 0) (p := q) rfl 8 (.int .i64 q.2.2.2.2.2) rfl; simpa using this⟩
        clear hx hy HE
        rw [List.length_cons] at hxi
        rw [List.length_cons] at hyi
        simp only [List.length_cons]
        obtain ⟨n1, hn1⟩ : ∃ n1, x.length + 1 = n1 := ⟨_, rfl⟩
        obtain ⟨n2, hn2⟩ : ∃ n2, y.length + 1 = n2 := ⟨_, rfl⟩
        rw [hn1] at hxi ⊢
        rw [hn2] at hyi ⊢
        have HN1 := Lib.hid hn1
        have HN2 := Lib.hid hn2
        clear hn1 hn2
        go_upto_region 2 with fail
        go_cut [8, 9] from 11 to 58 (fun s8 s9 w' => MeW wr p q s8 s9 w')
        case first =>
          have hG0 := (G.refl wr none).drew
          refine wp_region_held_drew (S := (fun w' : World => w'.cell? ⟨b1, o1, none⟩ = some (.string p.1) ∧ w'.cell? ⟨b1, o1 + 1, none⟩ = some (.int .i64 p.2.1.1) ∧ w'.cell? ⟨b1, o1 + 2, none⟩ = some (.string p.2.1.2.1) ∧ w'.cell? ⟨b1, o1 + 3, none⟩ = some (.int .i64 p.2.1.2.2.1) ∧ w'.cell? ⟨b1, o1 + 4, none⟩ = some (.int .i64 p.2.1.2.2.2) ∧ w'.cell? ⟨b1, o1 + 5, none⟩ = some (.int .i64 p.2.2.1) ∧ w'.cell? ⟨b1, o1 + 6, none⟩ = some (.string p.2.2.2.1) ∧ w'.cell? ⟨b1, o1 + 7, none⟩ = some (.int .i64 p.2.2.2.2.1) ∧ w'.cell? ⟨b1, o1 + 8, none⟩ = some (.int .i64 p.2.2.2.2.2) ∧ w'.cell? ⟨b2, o2, none⟩ = some (.string q.1) ∧ w'.cell? ⟨b2, o2 + 1, none⟩ = some (.int .i64 q.2.1.1) ∧ w'.cell? ⟨b2, o2 + 2, none⟩ = some (.string q.2.1.2.1) ∧ w'.cell? ⟨b2, o2 + 3, none⟩ = some (.int .i64 q.2.1.2.2.1) ∧ w'.cell? ⟨b2, o2 + 4, none⟩ = some (.int .i64 q.2.1.2.2.2) ∧ w'.cell? ⟨b2, o2 + 5, none⟩ = some (.int .i64 q.2.2.1) ∧ w'.cell? ⟨b2, o2 + 6, none⟩ = some (.string q.2.2.2.1) ∧ w'.cell? ⟨b2, o2 + 7, none⟩ = some (.int .i64 q.2.2.2.2.1) ∧ w'.cell? ⟨b2, o2 + 8, none⟩ = some (.int .i64 q.2.2.2.2.2))) (by kernel_rfl) ?_ (fun hHeld => ?_)
          · exact HS.out _ hG0
          generalize wr.drew = wd at hHeld hG0 ⊢
          refine wpAnyH_take (i := 0) (oi := { dst := some 19, op := Op.move (Operand.tmp 0), type := 31, pos := _, after := #[], guard := none }) (v := ?_) rfl (by kernel_rfl) (by kernel_rfl) (by kernel_rfl) (fun _ _ _ h => h) (Or.inl ⟨by rfl, ?_⟩) (by assumption) ?_
          rotate_left
          · (intro w hSw; obtain ⟨s0, s1, s2, s3, s4, s5, s6, s7, s8, s9, s10, s11, s12, s13, s14, s15, s16, s17⟩ := hSw; (go_simp <;> with_reducible rfl))
          try simp only [Act.put, List.setIfInBounds_toArray, List.set_cons_zero, List.set_cons_succ]
          refine wpAnyH_take (i := 1) (oi := { dst := some 20, op := Op.indexAddr 31 (Operand.tmp 19) (Operand.const (Value.int IntKind.i64 0)), type := 0, pos := _, after := #[{ on := 0, ground := Ground.data }], guard := none }) (v := ?_) rfl (by kernel_rfl) (by kernel_rfl) (by kernel_rfl) (fun _ _ _ h => h) (Or.inl ⟨by rfl, ?_⟩) (by assumption) ?_
          rotate_left
          · (intro w hSw; obtain ⟨s0, s1, s2, s3, s4, s5, s6, s7, s8, s9, s10, s11, s12, s13, s14, s15, s16, s17⟩ := hSw; (go_simp <;> with_reducible rfl))
          try simp only [Act.put, List.setIfInBounds_toArray, List.set_cons_zero, List.set_cons_succ]
          refine wpAnyH_take (i := 2) (oi := { dst := some 21, op := Op.load 79 (Operand.tmp 20), type := 79, pos := _, after := #[{ on := 1, ground := Ground.data }], guard := none }) (v := ?_) rfl (by kernel_rfl) (by kernel_rfl) (by kernel_rfl) (fun _ _ _ h => h) (Or.inl ⟨by rfl, ?_⟩) (by assumption) ?_
          rotate_left
          · (intro w hSw; obtain ⟨s0, s1, s2, s3, s4, s5, s6, s7, s8, s9, s10, s11, s12, s13, s14, s15, s16, s17⟩ := hSw; (go_simp <;> with_reducible rfl))
          try simp only [Act.put, List.setIfInBounds_toArray, List.set_cons_zero, List.set_cons_succ]
          refine wpAnyH_take (i := 4) (oi := { dst := some 23, op := Op.move (Operand.tmp 1), type := 31, pos := _, after := #[], guard := none }) (v := ?_) rfl (by kernel_rfl) (by kernel_rfl) (by kernel_rfl) (fun _ _ _ h => h) (Or.inl ⟨by rfl, ?_⟩) (by assumption) ?_
          rotate_left
          · (intro w hSw; obtain ⟨s0, s1, s2, s3, s4, s5, s6, s7, s8, s9, s10, s11, s12, s13, s14, s15, s16, s17⟩ := hSw; (go_simp <;> with_reducible rfl))
          try simp only [Act.put, List.setIfInBounds_toArray, List.set_cons_zero, List.set_cons_succ]
          refine wpAnyH_take (i := 5) (oi := { dst := some 24, op := Op.indexAddr 31 (Operand.tmp 23) (Operand.const (Value.int IntKind.i64 0)), type := 0, pos := _, after := #[{ on := 4, ground := Ground.data }], guard := none }) (v := ?_) rfl (by kernel_rfl) (by kernel_rfl) (by kernel_rfl) (fun _ _ _ h => h) (Or.inl ⟨by rfl, ?_⟩) (by assumption) ?_
          rotate_left
          · (intro w hSw; obtain ⟨s0, s1, s2, s3, s4, s5, s6, s7, s8, s9, s10, s11, s12, s13, s14, s15, s16, s17⟩ := hSw; (go_simp <;> with_reducible rfl))
          try simp only [Act.put, List.setIfInBounds_toArray, List.set_cons_zero, List.set_cons_succ]
          refine wpAnyH_take (i := 6) (oi := { dst := some 25, op := Op.load 79 (Operand.tmp 24), type := 79, pos := _, after := #[{ on := 5, ground := Ground.data }], guard := none }) (v := ?_) rfl (by kernel_rfl) (by kernel_rfl) (by kernel_rfl) (fun _ _ _ h => h) (Or.inl ⟨by rfl, ?_⟩) (by assumption) ?_
          rotate_left
          · (intro w hSw; obtain ⟨s0, s1, s2, s3, s4, s5, s6, s7, s8, s9, s10, s11, s12, s13, s14, s15, s16, s17⟩ := hSw; (go_simp <;> with_reducible rfl))
          try simp only [Act.put, List.setIfInBounds_toArray, List.set_cons_zero, List.set_cons_succ]
          refine wpAnyH_ready (rs := [3, 8, 9]) (by kernel_rfl) (by simp) ?_
          refine (AllReadyH.cons (o := { dst := some 22, op := Op.call { callee := Callee.value (Operand.func 104), args := #[Operand.tmp 21], argTypes := #[79] }, type := 30, pos := _, after := #[{ on := 2, ground := Ground.data }], guard := none }) rfl (fun K hK => ?_) (AllReadyH.cons (o := { dst := some 8, op := Op.alloc 30, type := 0, pos := _, after := #[], guard := none }) rfl (fun K hK => ?_) (AllReadyH.cons (o := { dst := some 9, op := Op.alloc 30, type := 0, pos := _, after := #[], guard := none }) rfl (fun K hK => ?_) AllReadyH.nil)))
          · go_simp
            refine (lasts_c p _).mono ?_
            rintro e w1_p ⟨rfl, hh⟩
            have hG1 := hG0.trans hh
            clear hh
            refine hK.out _ _ ?_ (fun hHeld => ?_)
            · exact HS.out _ hG1
            clear hK K
            try simp only [Act.put, List.setIfInBounds_toArray, List.set_cons_zero, List.set_cons_succ]
            refine wpAnyH_ready (rs := [7, 8, 9]) (by kernel_rfl) (by simp) ?_
            refine (AllReadyH.cons (o := { dst := some 26, op := Op.call { callee := Callee.value (Operand.func 104), args := #[Operand.tmp 25], argTypes := #[79] }, type := 30, pos := _, after := #[{ on := 6, ground := Ground.data }, { on := 3, ground := Ground.chain }], guard := none }) rfl (fun K hK => ?_) (AllReadyH.cons (o := { dst := some 8, op := Op.alloc 30, type := 0, pos := _, after := #[], guard := none }) rfl (fun K hK => ?_) (AllReadyH.cons (o := { dst := some 9, op := Op.alloc 30, type := 0, pos := _, after := #[], guard := none }) rfl (fun K hK => ?_) AllReadyH.nil)))
            · go_simp
              refine (lasts_c q _).mono ?_
              rintro e w2_q ⟨rfl, hh⟩
              have hG2 := hG1.trans hh
              clear hh
              refine hK.out _ _ ?_ (fun hHeld => ?_)
              · exact HS.out _ hG2
              clear hK K
              try simp only [Act.put, List.setIfInBounds_toArray, List.set_cons_zero, List.set_cons_succ]
              refine wpAnyH_ready (rs := [8, 9]) (by kernel_rfl) (by simp) ?_
              refine (AllReadyH.cons (o := { dst := some 8, op := Op.alloc 30, type := 0, pos := _, after := #[], guard := none }) rfl (fun K hK => ?_) (AllReadyH.cons (o := { dst := some 9, op := Op.alloc 30, type := 0, pos := _, after := #[], guard := none }) rfl (fun K hK => ?_) AllReadyH.nil))
              · go_simp
                have hG3 := hG2.alloc (.cells #[.int .i64 0, .int .i64 0] 30)
                have hA3 := Bk.new w2_q 30 #[.int .i64 0, .int .i64 0]
                have hlA : wr.heap.size ≤ w2_q.heap.size := hG2.size
                generalize w2_q.alloc (.cells #[.int .i64 0, .int .i64 0] 30) = w3_A at hG3 hA3 ⊢
                generalize w2_q.heap.size = gA at hA3 hlA ⊢
                refine hK.out _ _ ?_ (fun hHeld => ?_)
                · exact HS.out _ hG3
                clear hK K
                try simp only [Act.put, List.setIfInBounds_toArray, List.set_cons_zero, List.set_cons_succ]
                refine wpAnyH_ready (rs := [9]) (by kernel_rfl) (by simp) ?_
                refine (AllReadyH.cons (o := { dst := some 9, op := Op.alloc 30, type := 0, pos := _, after := #[], guard := none }) rfl (fun K hK => ?_) AllReadyH.nil)
                go_simp
                have hG4 := hG3.alloc (.cells #[.int .i64 0, .int .i64 0] 30)
                have hB4 := Bk.new w3_A 30 #[.int .i64 0, .int .i64 0]
                have hlB : wr.heap.size ≤ w3_A.heap.size := hG3.size
                have hne : gA ≠ w3_A.heap.size := Nat.ne_of_lt hA3.lt
                have hA4 := hA3.alloc (.cells #[.int .i64 0, .int .i64 0] 30)
                generalize w3_A.alloc (.cells #[.int .i64 0, .int .i64 0] 30) = w4_B at hG4 hB4 hA4 ⊢
                generalize w3_A.heap.size = gB at hB4 hlB hne ⊢
                refine hK.out _ _ ?_ (fun hHeld => ?_)
                · exact HS.out _ hG4
                clear hK K
                try simp only [Act.put, List.setIfInBounds_toArray, List.set_cons_zero, List.set_cons_succ]
                refine wpAnyH_ready (rs := [10]) (by kernel_rfl) (by simp) ?_
                refine (AllReadyH.cons (o := { dst := none, op := Op.store 30 (Operand.tmp 8) (Operand.tmp 22), type := 0, pos := _, after := #[{ on := 8, ground := Ground.data }, { on := 3, ground := Ground.data }, { on := 7, ground := Ground.chain }, { on := 0, ground := Ground.phase }, { on := 1, ground := Ground.phase }, { on := 2, ground := Ground.phase }, { on := 3, ground := Ground.phase }, { on := 4, ground := Ground.textOnly Departure.lateStores }, { on := 5, ground := Ground.textOnly Departure.lateStores }, { on := 6, ground := Ground.textOnly Departure.lateStores }, { on := 7, ground := Ground.textOnly Departure.lateStoresUnsure }, { on := 8, ground := Ground.phase }, { on := 9, ground := Ground.phase }], guard := none }) rfl (fun K hK => ?_) AllReadyH.nil)
                refine st_wp rfl (wp_store_row 30 _ _ rfl (gA) #[.int .i64 p.2.1.1, .int .i64 (toL p)] rfl rfl 30 _ hA4 (wi_info _ _) rfl (wi_one _ _) ?_)
                have hG5 := hG4.setRow (g := gA) (.inl hlA) #[.int .i64 p.2.1.1, .int .i64 (toL p)]
                have hA5 := hA4.setRow #[.int .i64 p.2.1.1, .int .i64 (toL p)]
                have hB5 := hB4.farRow (k := gA) (by omega) #[.int .i64 p.2.1.1, .int .i64 (toL p)]
                refine hK.out _ _ ?_ (fun hHeld => ?_)
                · exact HS.out _ hG5
                clear hK K
                try simp only [Act.put, List.setIfInBounds_toArray, List.set_cons_zero, List.set_cons_succ]
                refine wpAnyH_ready (rs := [11]) (by kernel_rfl) (by simp) ?_
                refine (AllReadyH.cons (o := { dst := none, op := Op.store 30 (Operand.tmp 9) (Operand.tmp 26), type := 0, pos := _, after := #[{ on := 9, ground := Ground.data }, { on := 7, ground := Ground.data }, { on := 10, ground := Ground.chain }, { on := 0, ground := Ground.phase }, { on := 1, ground := Ground.phase }, { on := 2, ground := Ground.phase }, { on := 3, ground := Ground.phase }, { on := 4, ground := Ground.phase }, { on := 5, ground := Ground.phase }, { on := 6, ground := Ground.phase }, { on := 7, ground := Ground.phase }, { on := 8, ground := Ground.phase }, { on := 9, ground := Ground.phase }, { on := 10, ground := Ground.phase }], guard := none }) rfl (fun K hK => ?_) AllReadyH.nil)
                refine st_wp rfl (wp_store_row 30 _ _ rfl (gB) #[.int .i64 q.2.1.1, .int .i64 (toL q)] rfl rfl 30 _ hB5 (wi_info _ _) rfl (wi_one _ _) ?_)
                have hG6 := hG5.setRow (g := gB) (.inl hlB) #[.int .i64 q.2.1.1, .int .i64 (toL q)]
                have hB6 := hB5.setRow #[.int .i64 q.2.1.1, .int .i64 (toL q)]
                have hA6 := hA5.farRow (k := gB) (by omega) #[.int .i64 q.2.1.1, .int .i64 (toL q)]
                refine hK.out _ _ ?_ (fun hHeld => ?_)
                · exact HS.out _ hG6
                clear hK K
                try simp only [Act.put, List.setIfInBounds_toArray, List.set_cons_zero, List.set_cons_succ]
                refine wpAnyH_done (by kernel_rfl) ?_ _
                go_wp2_with fail
                go_meet
                case rel => exact ⟨_, _, rfl, rfl, hA6, hB6, hG6⟩
              · go_simp
                have hG3 := hG2.alloc (.cells #[.int .i64 0, .int .i64 0] 30)
                have hB3 := Bk.new w2_q 30 #[.int .i64 0, .int .i64 0]
                have hlB : wr.heap.size ≤ w2_q.heap.size := hG2.size
                generalize w2_q.alloc (.cells #[.int .i64 0, .int .i64 0] 30) = w3_B at hG3 hB3 ⊢
                generalize w2_q.heap.size = gB at hB3 hlB ⊢
                refine hK.out _ _ ?_ (fun hHeld => ?_)
                · exact HS.out _ hG3
                clear hK K
                try simp only [Act.put, List.setIfInBounds_toArray, List.set_cons_zero, List.set_cons_succ]
                refine wpAnyH_ready (rs := [8]) (by kernel_rfl) (by simp) ?_
                refine (AllReadyH.cons (o := { dst := some 8, op := Op.alloc 30, type := 0, pos := _, after := #[], guard := none }) rfl (fun K hK => ?_) AllReadyH.nil)
                go_simp
                have hG4 := hG3.alloc (.cells #[.int .i64 0, .int .i64 0] 30)
                have hA4 := Bk.new w3_B 30 #[.int .i64 0, .int .i64 0]
                have hlA : wr.heap.size ≤ w3_B.heap.size := hG3.size
                have hne : gB ≠ w3_B.heap.size := Nat.ne_of_lt hB3.lt
                have hB4 := hB3.alloc (.cells #[.int .i64 0, .int .i64 0] 30)
                generalize w3_B.alloc (.cells #[.int .i64 0, .int .i64 0] 30) = w4_A at hG4 hA4 hB4 ⊢
                generalize w3_B.heap.size = gA at hA4 hlA hne ⊢
                refine hK.out _ _ ?_ (fun hHeld => ?_)
                · exact HS.out _ hG4
                clear hK K
                try simp only [Act.put, List.setIfInBounds_toArray, List.set_cons_zero, List.set_cons_succ]
                refine wpAnyH_ready (rs := [10]) (by kernel_rfl) (by simp) ?_
                refine (AllReadyH.cons (o := { dst := none, op := Op.store 30 (Operand.tmp 8) (Operand.tmp 22), type := 0, pos := _, after := #[{ on := 8, ground := Ground.data }, { on := 3, ground := Ground.data }, { on := 7, ground := Ground.chain }, { on := 0, ground := Ground.phase }, { on := 1, ground := Ground.phase }, { on := 2, ground := Ground.phase }, { on := 3, ground := Ground.phase }, { on := 4, ground := Ground.textOnly Departure.lateStores }, { on := 5, ground := Ground.textOnly Departure.lateStores }, { on := 6, ground := Ground.textOnly Departure.lateStores }, { on := 7, ground := Ground.textOnly Departure.lateStoresUnsure }, { on := 8, ground := Ground.phase }, { on := 9, ground := Ground.phase }], guard := none }) rfl (fun K hK => ?_) AllReadyH.nil)
                refine st_wp rfl (wp_store_row 30 _ _ rfl (gA) #[.int .i64 p.2.1.1, .int .i64 (toL p)] rfl rfl 30 _ hA4 (wi_info _ _) rfl (wi_one _ _) ?_)
                have hG5 := hG4.setRow (g := gA) (.inl hlA) #[.int .i64 p.2.1.1, .int .i64 (toL p)]
                have hA5 := hA4.setRow #[.int .i64 p.2.1.1, .int .i64 (toL p)]
                have hB5 := hB4.farRow (k := gA) (by omega) #[.int .i64 p.2.1.1, .int .i64 (toL p)]
                refine hK.out _ _ ?_ (fun hHeld => ?_)
                · exact HS.out _ hG5
                clear hK K
                try simp only [Act.put, List.setIfInBounds_toArray, List.set_cons_zero, List.set_cons_succ]
                refine wpAnyH_ready (rs := [11]) (by kernel_rfl) (by simp) ?_
                refine (AllReadyH.cons (o := { dst := none, op := Op.store 30 (Operand.tmp 9) (Operand.tmp 26), type := 0, pos := _, after := #[{ on := 9, ground := Ground.data }, { on := 7, ground := Ground.data }, { on := 10, ground := Ground.chain }, { on := 0, ground := Ground.phase }, { on := 1, ground := Ground.phase }, { on := 2, ground := Ground.phase }, { on := 3, ground := Ground.phase }, { on := 4, ground := Ground.phase }, { on := 5, ground := Ground.phase }, { on := 6, ground := Ground.phase }, { on := 7, ground := Ground.phase }, { on := 8, ground := Ground.phase }, { on := 9, ground := Ground.phase }, { on := 10, ground := Ground.phase }], guard := none }) rfl (fun K hK => ?_) AllReadyH.nil)
                refine st_wp rfl (wp_store_row 30 _ _ rfl (gB) #[.int .i64 q.2.1.1, .int .i64 (toL q)] rfl rfl 30 _ hB5 (wi_info _ _) rfl (wi_one _ _) ?_)
                have hG6 := hG5.setRow (g := gB) (.inl hlB) #[.int .i64 q.2.1.1, .int .i64 (toL q)]
                have hB6 := hB5.setRow #[.int .i64 q.2.1.1, .int .i64 (toL q)]
                have hA6 := hA5.farRow (k := gB) (by omega) #[.int .i64 q.2.1.1, .int .i64 (toL q)]
                refine hK.out _ _ ?_ (fun hHeld => ?_)
                · exact HS.out _ hG6
                clear hK K
                try simp only [Act.put, List.setIfInBounds_toArray, List.set_cons_zero, List.set_cons_succ]
                refine wpAnyH_done (by kernel_rfl) ?_ _
                go_wp2_with fail
                go_meet
                case rel => exact ⟨_, _, rfl, rfl, hA6, hB6, hG6⟩
            · go_simp
              have hG2 := hG1.alloc (.cells #[.int .i64 0, .int .i64 0] 30)
              have hA2 := Bk.new w1_p 30 #[.int .i64 0, .int .i64 0]
              have hlA : wr.heap.size ≤ w1_p.heap.size := hG1.size
              generalize w1_p.alloc (.cells #[.int .i64 0, .int .i64 0] 30) = w2_A at hG2 hA2 ⊢
              generalize w1_p.heap.size = gA at hA2 hlA ⊢
              refine hK.out _ _ ?_ (fun hHeld => ?_)
              · exact HS.out _ hG2
              clear hK K
              try simp only [Act.put, List.setIfInBounds_toArray, List.set_cons_zero, List.set_cons_succ]
              refine wpAnyH_ready (rs := [7, 9]) (by kernel_rfl) (by simp) ?_
              refine (AllReadyH.cons (o := { dst := some 26, op := Op.call { callee := Callee.value (Operand.func 104), args := #[Operand.tmp 25], argTypes := #[79] }, type := 30, pos := _, after := #[{ on := 6, ground := Ground.data }, { on := 3, ground := Ground.chain }], guard := none }) rfl (fun K hK => ?_) (AllReadyH.cons (o := { dst := some 9, op := Op.alloc 30, type := 0, pos := _, after := #[], guard := none }) rfl (fun K hK => ?_) AllReadyH.nil))
              · go_simp
                refine (lasts_c q _).mono ?_
                rintro e w3_q ⟨rfl, hh⟩
                have hG3 := hG2.trans hh
                have hA3 := hA2.quiet hh
                clear hh
                refine hK.out _ _ ?_ (fun hHeld => ?_)
                · exact HS.out _ hG3
                clear hK K
                try simp only [Act.put, List.setIfInBounds_toArray, List.set_cons_zero, List.set_cons_succ]
                refine wpAnyH_ready (rs := [9]) (by kernel_rfl) (by simp) ?_
                refine (AllReadyH.cons (o := { dst := some 9, op := Op.alloc 30, type := 0, pos := _, after := #[], guard := none }) rfl (fun K hK => ?_) AllReadyH.nil)
                go_simp
                have hG4 := hG3.alloc (.cells #[.int .i64 0, .int .i64 0] 30)
                have hB4 := Bk.new w3_q 30 #[.int .i64 0, .int .i64 0]
                have hlB : wr.heap.size ≤ w3_q.heap.size := hG3.size
                have hne : gA ≠ w3_q.heap.size := Nat.ne_of_lt hA3.lt
                have hA4 := hA3.alloc (.cells #[.int .i64 0, .int .i64 0] 30)
                generalize w3_q.alloc (.cells #[.int .i64 0, .int .i64 0] 30) = w4_B at hG4 hB4 hA4 ⊢
                generalize w3_q.heap.size = gB at hB4 hlB hne ⊢
                refine hK.out _ _ ?_ (fun hHeld => ?_)
                · exact HS.out _ hG4
                clear hK K
                try simp only [Act.put, List.setIfInBounds_toArray, List.set_cons_zero, List.set_cons_succ]
                refine wpAnyH_ready (rs := [10]) (by kernel_rfl) (by simp) ?_
                refine (AllReadyH.cons (o := { dst := none, op := Op.store 30 (Operand.tmp 8) (Operand.tmp 22), type := 0, pos := _, after := #[{ on := 8, ground := Ground.data }, { on := 3, ground := Ground.data }, { on := 7, ground := Ground.chain }, { on := 0, ground := Ground.phase }, { on := 1, ground := Ground.phase }, { on := 2, ground := Ground.phase }, { on := 3, ground := Ground.phase }, { on := 4, ground := Ground.textOnly Departure.lateStores }, { on := 5, ground := Ground.textOnly Departure.lateStores }, { on := 6, ground := Ground.textOnly Departure.lateStores }, { on := 7, ground := Ground.textOnly Departure.lateStoresUnsure }, { on := 8, ground := Ground.phase }, { on := 9, ground := Ground.phase }], guard := none }) rfl (fun K hK => ?_) AllReadyH.nil)
                refine st_wp rfl (wp_store_row 30 _ _ rfl (gA) #[.int .i64 p.2.1.1, .int .i64 (toL p)] rfl rfl 30 _ hA4 (wi_info _ _) rfl (wi_one _ _) ?_)
                have hG5 := hG4.setRow (g := gA) (.inl hlA) #[.int .i64 p.2.1.1, .int .i64 (toL p)]
                have hA5 := hA4.setRow #[.int .i64 p.2.1.1, .int .i64 (toL p)]
                have hB5 := hB4.farRow (k := gA) (by omega) #[.int .i64 p.2.1.1, .int .i64 (toL p)]
                refine hK.out _ _ ?_ (fun hHeld => ?_)
                · exact HS.out _ hG5
                clear hK K
                try simp only [Act.put, List.setIfInBounds_toArray, List.set_cons_zero, List.set_cons_succ]
                refine wpAnyH_ready (rs := [11]) (by kernel_rfl) (by simp) ?_
                refine (AllReadyH.cons (o := { dst := none, op := Op.store 30 (Operand.tmp 9) (Operand.tmp 26), type := 0, pos := _, after := #[{ on := 9, ground := Ground.data }, { on := 7, ground := Ground.data }, { on := 10, ground := Ground.chain }, { on := 0, ground := Ground.phase }, { on := 1, ground := Ground.phase }, { on := 2, ground := Ground.phase }, { on := 3, ground := Ground.phase }, { on := 4, ground := Ground.phase }, { on := 5, ground := Ground.phase }, { on := 6, ground := Ground.phase }, { on := 7, ground := Ground.phase }, { on := 8, ground := Ground.phase }, { on := 9, ground := Ground.phase }, { on := 10, ground := Ground.phase }], guard := none }) rfl (fun K hK => ?_) AllReadyH.nil)
                refine st_wp rfl (wp_store_row 30 _ _ rfl (gB) #[.int .i64 q.2.1.1, .int .i64 (toL q)] rfl rfl 30 _ hB5 (wi_info _ _) rfl (wi_one _ _) ?_)
                have hG6 := hG5.setRow (g := gB) (.inl hlB) #[.int .i64 q.2.1.1, .int .i64 (toL q)]
                have hB6 := hB5.setRow #[.int .i64 q.2.1.1, .int .i64 (toL q)]
                have hA6 := hA5.farRow (k := gB) (by omega) #[.int .i64 q.2.1.1, .int .i64 (toL q)]
                refine hK.out _ _ ?_ (fun hHeld => ?_)
                · exact HS.out _ hG6
                clear hK K
                try simp only [Act.put, List.setIfInBounds_toArray, List.set_cons_zero, List.set_cons_succ]
                refine wpAnyH_done (by kernel_rfl) ?_ _
                go_wp2_with fail
                go_meet
                case rel => exact ⟨_, _, rfl, rfl, hA6, hB6, hG6⟩
              · go_simp
                have hG3 := hG2.alloc (.cells #[.int .i64 0, .int .i64 0] 30)
                have hB3 := Bk.new w2_A 30 #[.int .i64 0, .int .i64 0]
                have hlB : wr.heap.size ≤ w2_A.heap.size := hG2.size
                have hne : gA ≠ w2_A.heap.size := Nat.ne_of_lt hA2.lt
                have hA3 := hA2.alloc (.cells #[.int .i64 0, .int .i64 0] 30)
                generalize w2_A.alloc (.cells #[.int .i64 0, .int .i64 0] 30) = w3_B at hG3 hB3 hA3 ⊢
                generalize w2_A.heap.size = gB at hB3 hlB hne ⊢
                refine hK.out _ _ ?_ (fun hHeld => ?_)
                · exact HS.out _ hG3
                clear hK K
                try simp only [Act.put, List.setIfInBounds_toArray, List.set_cons_zero, List.set_cons_succ]
                refine wpAnyH_ready (rs := [7]) (by kernel_rfl) (by simp) ?_
                refine (AllReadyH.cons (o := { dst := some 26, op := Op.call { callee := Callee.value (Operand.func 104), args := #[Operand.tmp 25], argTypes := #[79] }, type := 30, pos := _, after := #[{ on := 6, ground := Ground.data }, { on := 3, ground := Ground.chain }], guard := none }) rfl (fun K hK => ?_) AllReadyH.nil)
                go_simp
                refine (lasts_c q _).mono ?_
                rintro e w4_q ⟨rfl, hh⟩
                have hG4 := hG3.trans hh
                have hA4 := hA3.quiet hh
                have hB4 := hB3.quiet hh
                clear hh
                refine hK.out _ _ ?_ (fun hHeld => ?_)
                · exact HS.out _ hG4
                clear hK K
                try simp only [Act.put, List.setIfInBounds_toArray, List.set_cons_zero, List.set_cons_succ]
                refine wpAnyH_ready (rs := [10]) (by kernel_rfl) (by simp) ?_
                refine (AllReadyH.cons (o := { dst := none, op := Op.store 30 (Operand.tmp 8) (Operand.tmp 22), type := 0, pos := _, after := #[{ on := 8, ground := Ground.data }, { on := 3, ground := Ground.data }, { on := 7, ground := Ground.chain }, { on := 0, ground := Ground.phase }, { on := 1, ground := Ground.phase }, { on := 2, ground := Ground.phase }, { on := 3, ground := Ground.phase }, { on := 4, ground := Ground.textOnly Departure.lateStores }, { on := 5, ground := Ground.textOnly Departure.lateStores }, { on := 6, ground := Ground.textOnly Departure.lateStores }, { on := 7, ground := Ground.textOnly Departure.lateStoresUnsure }, { on := 8, ground := Ground.phase }, { on := 9, ground := Ground.phase }], guard := none }) rfl (fun K hK => ?_) AllReadyH.nil)
                refine st_wp rfl (wp_store_row 30 _ _ rfl (gA) #[.int .i64 p.2.1.1, .int .i64 (toL p)] rfl rfl 30 _ hA4 (wi_info _ _) rfl (wi_one _ _) ?_)
                have hG5 := hG4.setRow (g := gA) (.inl hlA) #[.int .i64 p.2.1.1, .int .i64 (toL p)]
                have hA5 := hA4.setRow #[.int .i64 p.2.1.1, .int .i64 (toL p)]
                have hB5 := hB4.farRow (k := gA) (by omega) #[.int .i64 p.2.1.1, .int .i64 (toL p)]
                refine hK.out _ _ ?_ (fun hHeld => ?_)
                · exact HS.out _ hG5
                clear hK K
                try simp only [Act.put, List.setIfInBounds_toArray, List.set_cons_zero, List.set_cons_succ]
                refine wpAnyH_ready (rs := [11]) (by kernel_rfl) (by simp) ?_
                refine (AllReadyH.cons (o := { dst := none, op := Op.store 30 (Operand.tmp 9) (Operand.tmp 26), type := 0, pos := _, after := #[{ on := 9, ground := Ground.data }, { on := 7, ground := Ground.data }, { on := 10, ground := Ground.chain }, { on := 0, ground := Ground.phase }, { on := 1, ground := Ground.phase }, { on := 2, ground := Ground.phase }, { on := 3, ground := Ground.phase }, { on := 4, ground := Ground.phase }, { on := 5, ground := Ground.phase }, { on := 6, ground := Ground.phase }, { on := 7, ground := Ground.phase }, { on := 8, ground := Ground.phase }, { on := 9, ground := Ground.phase }, { on := 10, ground := Ground.phase }], guard := none }) rfl (fun K hK => ?_) AllReadyH.nil)
                refine st_wp rfl (wp_store_row 30 _ _ rfl (gB) #[.int .i64 q.2.1.1, .int .i64 (toL q)] rfl rfl 30 _ hB5 (wi_info _ _) rfl (wi_one _ _) ?_)
                have hG6 := hG5.setRow (g := gB) (.inl hlB) #[.int .i64 q.2.1.1, .int .i64 (toL q)]
                have hB6 := hB5.setRow #[.int .i64 q.2.1.1, .int .i64 (toL q)]
                have hA6 := hA5.farRow (k := gB) (by omega) #[.int .i64 q.2.1.1, .int .i64 (toL q)]
                refine hK.out _ _ ?_ (fun hHeld => ?_)
                · exact HS.out _ hG6
                clear hK K
                try simp only [Act.put, List.setIfInBounds_toArray, List.set_cons_zero, List.set_cons_succ]
                refine wpAnyH_done (by kernel_rfl) ?_ _
                go_wp2_with fail
                go_meet
                case rel => exact ⟨_, _, rfl, rfl, hA6, hB6, hG6⟩
            · go_simp
              have hG2 := hG1.alloc (.cells #[.int .i64 0, .int .i64 0] 30)
              have hB2 := Bk.new w1_p 30 #[.int .i64 0, .int .i64 0]
              have hlB : wr.heap.size ≤ w1_p.heap.size := hG1.size
              generalize w1_p.alloc (.cells #[.int .i64 0, .int .i64 0] 30) = w2_B at hG2 hB2 ⊢
              generalize w1_p.heap.size = gB at hB2 hlB ⊢
              refine hK.out _ _ ?_ (fun hHeld => ?_)
              · exact HS.out _ hG2
              clear hK K
              try simp only [Act.put, List.setIfInBounds_toArray, List.set_cons_zero, List.set_cons_succ]
              refine wpAnyH_ready (rs := [7, 8]) (by kernel_rfl) (by simp) ?_
              refine (AllReadyH.cons (o := { dst := some 26, op := Op.call { callee := Callee.value (Operand.func 104), args := #[Operand.tmp 25], argTypes := #[79] }, type := 30, pos := _, after := #[{ on := 6, ground := Ground.data }, { on := 3, ground := Ground.chain }], guard := none }) rfl (fun K hK => ?_) (AllReadyH.cons (o := { dst := some 8, op := Op.alloc 30, type := 0, pos := _, after := #[], guard := none }) rfl (fun K hK => ?_) AllReadyH.nil))
              · go_simp
                refine (lasts_c q _).mono ?_
                rintro e w3_q ⟨rfl, hh⟩
                have hG3 := hG2.trans hh
                have hB3 := hB2.quiet hh
                clear hh
                refine hK.out _ _ ?_ (fun hHeld => ?_)
                · exact HS.out _ hG3
                clear hK K
                try simp only [Act.put, List.setIfInBounds_toArray, List.set_cons_zero, List.set_cons_succ]
                refine wpAnyH_ready (rs := [8]) (by kernel_rfl) (by simp) ?_
                refine (AllReadyH.cons (o := { dst := some 8, op := Op.alloc 30, type := 0, pos := _, after := #[], guard := none }) rfl (fun K hK => ?_) AllReadyH.nil)
                go_simp
                have hG4 := hG3.alloc (.cells #[.int .i64 0, .int .i64 0] 30)
                have hA4 := Bk.new w3_q 30 #[.int .i64 0, .int .i64 0]
                have hlA : wr.heap.size ≤ w3_q.heap.size := hG3.size
                have hne : gB ≠ w3_q.heap.size := Nat.ne_of_lt hB3.lt
                have hB4 := hB3.alloc (.cells #[.int .i64 0, .int .i64 0] 30)
                generalize w3_q.alloc (.cells #[.int .i64 0, .int .i64 0] 30) = w4_A at hG4 hA4 hB4 ⊢
                generalize w3_q.heap.size = gA at hA4 hlA hne ⊢
                refine hK.out _ _ ?_ (fun hHeld => ?_)
                · exact HS.out _ hG4
                clear hK K
                try simp only [Act.put, List.setIfInBounds_toArray, List.set_cons_zero, List.set_cons_succ]
                refine wpAnyH_ready (rs := [10]) (by kernel_rfl) (by simp) ?_
                refine (AllReadyH.cons (o := { dst := none, op := Op.store 30 (Operand.tmp 8) (Operand.tmp 22), type := 0, pos := _, after := #[{ on := 8, ground := Ground.data }, { on := 3, ground := Ground.data }, { on := 7, ground := Ground.chain }, { on := 0, ground := Ground.phase }, { on := 1, ground := Ground.phase }, { on := 2, ground := Ground.phase }, { on := 3, ground := Ground.phase }, { on := 4, ground := Ground.textOnly Departure.lateStores }, { on := 5, ground := Ground.textOnly Departure.lateStores }, { on := 6, ground := Ground.textOnly Departure.lateStores }, { on := 7, ground := Ground.textOnly Departure.lateStoresUnsure }, { on := 8, ground := Ground.phase }, { on := 9, ground := Ground.phase }], guard := none }) rfl (fun K hK => ?_) AllReadyH.nil)
                refine st_wp rfl (wp_store_row 30 _ _ rfl (gA) #[.int .i64 p.2.1.1, .int .i64 (toL p)] rfl rfl 30 _ hA4 (wi_info _ _) rfl (wi_one _ _) ?_)
                have hG5 := hG4.setRow (g := gA) (.inl hlA) #[.int .i64 p.2.1.1, .int .i64 (toL p)]
                have hA5 := hA4.setRow #[.int .i64 p.2.1.1, .int .i64 (toL p)]
                have hB5 := hB4.farRow (k := gA) (by omega) #[.int .i64 p.2.1.1, .int .i64 (toL p)]
                refine hK.out _ _ ?_ (fun hHeld => ?_)
                · exact HS.out _ hG5
                clear hK K
                try simp only [Act.put, List.setIfInBounds_toArray, List.set_cons_zero, List.set_cons_succ]
                refine wpAnyH_ready (rs := [11]) (by kernel_rfl) (by simp) ?_
                refine (AllReadyH.cons (o := { dst := none, op := Op.store 30 (Operand.tmp 9) (Operand.tmp 26), type := 0, pos := _, after := #[{ on := 9, ground := Ground.data }, { on := 7, ground := Ground.data }, { on := 10, ground := Ground.chain }, { on := 0, ground := Ground.phase }, { on := 1, ground := Ground.phase }, { on := 2, ground := Ground.phase }, { on := 3, ground := Ground.phase }, { on := 4, ground := Ground.phase }, { on := 5, ground := Ground.phase }, { on := 6, ground := Ground.phase }, { on := 7, ground := Ground.phase }, { on := 8, ground := Ground.phase }, { on := 9, ground := Ground.phase }, { on := 10, ground := Ground.phase }], guard := none }) rfl (fun K hK => ?_) AllReadyH.nil)
                refine st_wp rfl (wp_store_row 30 _ _ rfl (gB) #[.int .i64 q.2.1.1, .int .i64 (toL q)] rfl rfl 30 _ hB5 (wi_info _ _) rfl (wi_one _ _) ?_)
                have hG6 := hG5.setRow (g := gB) (.inl hlB) #[.int .i64 q.2.1.1, .int .i64 (toL q)]
                have hB6 := hB5.setRow #[.int .i64 q.2.1.1, .int .i64 (toL q)]
                have hA6 := hA5.farRow (k := gB) (by omega) #[.int .i64 q.2.1.1, .int .i64 (toL q)]
                refine hK.out _ _ ?_ (fun hHeld => ?_)
                · exact HS.out _ hG6
                clear hK K
                try simp only [Act.put, List.setIfInBounds_toArray, List.set_cons_zero, List.set_cons_succ]
                refine wpAnyH_done (by kernel_rfl) ?_ _
                go_wp2_with fail
                go_meet
                case rel => exact ⟨_, _, rfl, rfl, hA6, hB6, hG6⟩
              · go_simp
                have hG3 := hG2.alloc (.cells #[.int .i64 0, .int .i64 0] 30)
                have hA3 := Bk.new w2_B 30 #[.int .i64 0, .int .i64 0]
                have hlA : wr.heap.size ≤ w2_B.heap.size := hG2.size
                have hne : gB ≠ w2_B.heap.size := Nat.ne_of_lt hB2.lt
                have hB3 := hB2.alloc (.cells #[.int .i64 0, .int .i64 0] 30)
                generalize w2_B.alloc (.cells #[.int .i64 0, .int .i64 0] 30) = w3_A at hG3 hA3 hB3 ⊢
                generalize w2_B.heap.size = gA at hA3 hlA hne ⊢
                refine hK.out _ _ ?_ (fun hHeld => ?_)
                · exact HS.out _ hG3
                clear hK K
                try simp only [Act.put, List.setIfInBounds_toArray, List.set_cons_zero, List.set_cons_succ]
                refine wpAnyH_ready (rs := [7]) (by kernel_rfl) (by simp) ?_
                refine (AllReadyH.cons (o := { dst := some 26, op := Op.call { callee := Callee.value (Operand.func 104), args := #[Operand.tmp 25], argTypes := #[79] }, type := 30, pos := _, after := #[{ on := 6, ground := Ground.data }, { on := 3, ground := Ground.chain }], guard := none }) rfl (fun K hK => ?_) AllReadyH.nil)
                go_simp
                refine (lasts_c q _).mono ?_
                rintro e w4_q ⟨rfl, hh⟩
                have hG4 := hG3.trans hh
                have hA4 := hA3.quiet hh
                have hB4 := hB3.quiet hh
                clear hh
                refine hK.out _ _ ?_ (fun hHeld => ?_)
                · exact HS.out _ hG4
                clear hK K
                try simp only [Act.put, List.setIfInBounds_toArray, List.set_cons_zero, List.set_cons_succ]
                refine wpAnyH_ready (rs := [10]) (by kernel_rfl) (by simp) ?_
                refine (AllReadyH.cons (o := { dst := none, op := Op.store 30 (Operand.tmp 8) (Operand.tmp 22), type := 0, pos := _, after := #[{ on := 8, ground := Ground.data }, { on := 3, ground := Ground.data }, { on := 7, ground := Ground.chain }, { on := 0, ground := Ground.phase }, { on := 1, ground := Ground.phase }, { on := 2, ground := Ground.phase }, { on := 3, ground := Ground.phase }, { on := 4, ground := Ground.textOnly Departure.lateStores }, { on := 5, ground := Ground.textOnly Departure.lateStores }, { on := 6, ground := Ground.textOnly Departure.lateStores }, { on := 7, ground := Ground.textOnly Departure.lateStoresUnsure }, { on := 8, ground := Ground.phase }, { on := 9, ground := Ground.phase }], guard := none }) rfl (fun K hK => ?_) AllReadyH.nil)
                refine st_wp rfl (wp_store_row 30 _ _ rfl (gA) #[.int .i64 p.2.1.1, .int .i64 (toL p)] rfl rfl 30 _ hA4 (wi_info _ _) rfl (wi_one _ _) ?_)
                have hG5 := hG4.setRow (g := gA) (.inl hlA) #[.int .i64 p.2.1.1, .int .i64 (toL p)]
                have hA5 := hA4.setRow #[.int .i64 p.2.1.1, .int .i64 (toL p)]
                have hB5 := hB4.farRow (k := gA) (by omega) #[.int .i64 p.2.1.1, .int .i64 (toL p)]
                refine hK.out _ _ ?_ (fun hHeld => ?_)
                · exact HS.out _ hG5
                clear hK K
                try simp only [Act.put, List.setIfInBounds_toArray, List.set_cons_zero, List.set_cons_succ]
                refine wpAnyH_ready (rs := [11]) (by kernel_rfl) (by simp) ?_
                refine (AllReadyH.cons (o := { dst := none, op := Op.store 30 (Operand.tmp 9) (Operand.tmp 26), type := 0, pos := _, after := #[{ on := 9, ground := Ground.data }, { on := 7, ground := Ground.data }, { on := 10, ground := Ground.chain }, { on := 0, ground := Ground.phase }, { on := 1, ground := Ground.phase }, { on := 2, ground := Ground.phase }, { on := 3, ground := Ground.phase }, { on := 4, ground := Ground.phase }, { on := 5, ground := Ground.phase }, { on := 6, ground := Ground.phase }, { on := 7, ground := Ground.phase }, { on := 8, ground := Ground.phase }, { on := 9, ground := Ground.phase }, { on := 10, ground := Ground.phase }], guard := none }) rfl (fun K hK => ?_) AllReadyH.nil)
                refine st_wp rfl (wp_store_row 30 _ _ rfl (gB) #[.int .i64 q.2.1.1, .int .i64 (toL q)] rfl rfl 30 _ hB5 (wi_info _ _) rfl (wi_one _ _) ?_)
                have hG6 := hG5.setRow (g := gB) (.inl hlB) #[.int .i64 q.2.1.1, .int .i64 (toL q)]
                have hB6 := hB5.setRow #[.int .i64 q.2.1.1, .int .i64 (toL q)]
                have hA6 := hA5.farRow (k := gB) (by omega) #[.int .i64 q.2.1.1, .int .i64 (toL q)]
                refine hK.out _ _ ?_ (fun hHeld => ?_)
                · exact HS.out _ hG6
                clear hK K
                try simp only [Act.put, List.setIfInBounds_toArray, List.set_cons_zero, List.set_cons_succ]
                refine wpAnyH_done (by kernel_rfl) ?_ _
                go_wp2_with fail
                go_meet
                case rel => exact ⟨_, _, rfl, rfl, hA6, hB6, hG6⟩
          · go_simp
            have hG1 := hG0.alloc (.cells #[.int .i64 0, .int .i64 0] 30)
            have hA1 := Bk.new wd 30 #[.int .i64 0, .int .i64 0]
            have hlA : wr.heap.size ≤ wd.heap.size := hG0.size
            generalize wd.alloc (.cells #[.int .i64 0, .int .i64 0] 30) = w1_A at hG1 hA1 ⊢
            generalize wd.heap.size = gA at hA1 hlA ⊢
            refine hK.out _ _ ?_ (fun hHeld => ?_)
            · exact HS.out _ hG1
            clear hK K
            try simp only [Act.put, List.setIfInBounds_toArray, List.set_cons_zero, List.set_cons_succ]
            refine wpAnyH_ready (rs := [3, 9]) (by kernel_rfl) (by simp) ?_
            refine (AllReadyH.cons (o := { dst := some 22, op := Op.call { callee := Callee.value (Operand.func 104), args := #[Operand.tmp 21], argTypes := #[79] }, type := 30, pos := _, after := #[{ on := 2, ground := Ground.data }], guard := none }) rfl (fun K hK => ?_) (AllReadyH.cons (o := { dst := some 9, op := Op.alloc 30, type := 0, pos := _, after := #[], guard := none }) rfl (fun K hK => ?_) AllReadyH.nil))
            · go_simp
              refine (lasts_c p _).mono ?_
              rintro e w2_p ⟨rfl, hh⟩
              have hG2 := hG1.trans hh
              have hA2 := hA1.quiet hh
              clear hh
              refine hK.out _ _ ?_ (fun hHeld => ?_)
              · exact HS.out _ hG2
              clear hK K
              try simp only [Act.put, List.setIfInBounds_toArray, List.set_cons_zero, List.set_cons_succ]
              refine wpAnyH_ready (rs := [7, 9]) (by kernel_rfl) (by simp) ?_
              refine (AllReadyH.cons (o := { dst := some 26, op := Op.call { callee := Callee.value (Operand.func 104), args := #[Operand.tmp 25], argTypes := #[79] }, type := 30, pos := _, after := #[{ on := 6, ground := Ground.data }, { on := 3, ground := Ground.chain }], guard := none }) rfl (fun K hK => ?_) (AllReadyH.cons (o := { dst := some 9, op := Op.alloc 30, type := 0, pos := _, after := #[], guard := none }) rfl (fun K hK => ?_) AllReadyH.nil))
              · go_simp
                refine (lasts_c q _).mono ?_
                rintro e w3_q ⟨rfl, hh⟩
                have hG3 := hG2.trans hh
                have hA3 := hA2.quiet hh
                clear hh
                refine hK.out _ _ ?_ (fun hHeld => ?_)
                · exact HS.out _ hG3
                clear hK K
                try simp only [Act.put, List.setIfInBounds_toArray, List.set_cons_zero, List.set_cons_succ]
                refine wpAnyH_ready (rs := [9]) (by kernel_rfl) (by simp) ?_
                refine (AllReadyH.cons (o := { dst := some 9, op := Op.alloc 30, type := 0, pos := _, after := #[], guard := none }) rfl (fun K hK => ?_) AllReadyH.nil)
                go_simp
                have hG4 := hG3.alloc (.cells #[.int .i64 0, .int .i64 0] 30)
                have hB4 := Bk.new w3_q 30 #[.int .i64 0, .int .i64 0]
                have hlB : wr.heap.size ≤ w3_q.heap.size := hG3.size
                have hne : gA ≠ w3_q.heap.size := Nat.ne_of_lt hA3.lt
                have hA4 := hA3.alloc (.cells #[.int .i64 0, .int .i64 0] 30)
                generalize w3_q.alloc (.cells #[.int .i64 0, .int .i64 0] 30) = w4_B at hG4 hB4 hA4 ⊢
                generalize w3_q.heap.size = gB at hB4 hlB hne ⊢
                refine hK.out _ _ ?_ (fun hHeld => ?_)
                · exact HS.out _ hG4
                clear hK K
                try simp only [Act.put, List.setIfInBounds_toArray, List.set_cons_zero, List.set_cons_succ]
                refine wpAnyH_ready (rs := [10]) (by kernel_rfl) (by simp) ?_
                refine (AllReadyH.cons (o := { dst := none, op := Op.store 30 (Operand.tmp 8) (Operand.tmp 22), type := 0, pos := _, after := #[{ on := 8, ground := Ground.data }, { on := 3, ground := Ground.data }, { on := 7, ground := Ground.chain }, { on := 0, ground := Ground.phase }, { on := 1, ground := Ground.phase }, { on := 2, ground := Ground.phase }, { on := 3, ground := Ground.phase }, { on := 4, ground := Ground.textOnly Departure.lateStores }, { on := 5, ground := Ground.textOnly Departure.lateStores }, { on := 6, ground := Ground.textOnly Departure.lateStores }, { on := 7, ground := Ground.textOnly Departure.lateStoresUnsure }, { on := 8, ground := Ground.phase }, { on := 9, ground := Ground.phase }], guard := none }) rfl (fun K hK => ?_) AllReadyH.nil)
                refine st_wp rfl (wp_store_row 30 _ _ rfl (gA) #[.int .i64 p.2.1.1, .int .i64 (toL p)] rfl rfl 30 _ hA4 (wi_info _ _) rfl (wi_one _ _) ?_)
                have hG5 := hG4.setRow (g := gA) (.inl hlA) #[.int .i64 p.2.1.1, .int .i64 (toL p)]
                have hA5 := hA4.setRow #[.int .i64 p.2.1.1, .int .i64 (toL p)]
                have hB5 := hB4.farRow (k := gA) (by omega) #[.int .i64 p.2.1.1, .int .i64 (toL p)]
                refine hK.out _ _ ?_ (fun hHeld => ?_)
                · exact HS.out _ hG5
                clear hK K
                try simp only [Act.put, List.setIfInBounds_toArray, List.set_cons_zero, List.set_cons_succ]
                refine wpAnyH_ready (rs := [11]) (by kernel_rfl) (by simp) ?_
                refine (AllReadyH.cons (o := { dst := none, op := Op.store 30 (Operand.tmp 9) (Operand.tmp 26), type := 0, pos := _, after := #[{ on := 9, ground := Ground.data }, { on := 7, ground := Ground.data }, { on := 10, ground := Ground.chain }, { on := 0, ground := Ground.phase }, { on := 1, ground := Ground.phase }, { on := 2, ground := Ground.phase }, { on := 3, ground := Ground.phase }, { on := 4, ground := Ground.phase }, { on := 5, ground := Ground.phase }, { on := 6, ground := Ground.phase }, { on := 7, ground := Ground.phase }, { on := 8, ground := Ground.phase }, { on := 9, ground := Ground.phase }, { on := 10, ground := Ground.phase }], guard := none }) rfl (fun K hK => ?_) AllReadyH.nil)
                refine st_wp rfl (wp_store_row 30 _ _ rfl (gB) #[.int .i64 q.2.1.1, .int .i64 (toL q)] rfl rfl 30 _ hB5 (wi_info _ _) rfl (wi_one _ _) ?_)
                have hG6 := hG5.setRow (g := gB) (.inl hlB) #[.int .i64 q.2.1.1, .int .i64 (toL q)]
                have hB6 := hB5.setRow #[.int .i64 q.2.1.1, .int .i64 (toL q)]
                have hA6 := hA5.farRow (k := gB) (by omega) #[.int .i64 q.2.1.1, .int .i64 (toL q)]
                refine hK.out _ _ ?_ (fun hHeld => ?_)
                · exact HS.out _ hG6
                clear hK K
                try simp only [Act.put, List.setIfInBounds_toArray, List.set_cons_zero, List.set_cons_succ]
                refine wpAnyH_done (by kernel_rfl) ?_ _
                go_wp2_with fail
                go_meet
                case rel => exact ⟨_, _, rfl, rfl, hA6, hB6, hG6⟩
              · go_simp
                have hG3 := hG2.alloc (.cells #[.int .i64 0, .int .i64 0] 30)
                have hB3 := Bk.new w2_p 30 #[.int .i64 0, .int .i64 0]
                have hlB : wr.heap.size ≤ w2_p.heap.size := hG2.size
                have hne : gA ≠ w2_p.heap.size := Nat.ne_of_lt hA2.lt
                have hA3 := hA2.alloc (.cells #[.int .i64 0, .int .i64 0] 30)
                generalize w2_p.alloc (.cells #[.int .i64 0, .int .i64 0] 30) = w3_B at hG3 hB3 hA3 ⊢
                generalize w2_p.heap.size = gB at hB3 hlB hne ⊢
                refine hK.out _ _ ?_ (fun hHeld => ?_)
                · exact HS.out _ hG3
                clear hK K
                try simp only [Act.put, List.setIfInBounds_toArray, List.set_cons_zero, List.set_cons_succ]
                refine wpAnyH_ready (rs := [7]) (by kernel_rfl) (by simp) ?_
                refine (AllReadyH.cons (o := { dst := some 26, op := Op.call { callee := Callee.value (Operand.func 104), args := #[Operand.tmp 25], argTypes := #[79] }, type := 30, pos := _, after := #[{ on := 6, ground := Ground.data }, { on := 3, ground := Ground.chain }], guard := none }) rfl (fun K hK => ?_) AllReadyH.nil)
                go_simp
                refine (lasts_c q _).mono ?_
                rintro e w4_q ⟨rfl, hh⟩
                have hG4 := hG3.trans hh
                have hA4 := hA3.quiet hh
                have hB4 := hB3.quiet hh
                clear hh
                refine hK.out _ _ ?_ (fun hHeld => ?_)
                · exact HS.out _ hG4
                clear hK K
                try simp only [Act.put, List.setIfInBounds_toArray, List.set_cons_zero, List.set_cons_succ]
                refine wpAnyH_ready (rs := [10]) (by kernel_rfl) (by simp) ?_
                refine (AllReadyH.cons (o := { dst := none, op := Op.store 30 (Operand.tmp 8) (Operand.tmp 22), type := 0, pos := _, after := #[{ on := 8, ground := Ground.data }, { on := 3, ground := Ground.data }, { on := 7, ground := Ground.chain }, { on := 0, ground := Ground.phase }, { on := 1, ground := Ground.phase }, { on := 2, ground := Ground.phase }, { on := 3, ground := Ground.phase }, { on := 4, ground := Ground.textOnly Departure.lateStores }, { on := 5, ground := Ground.textOnly Departure.lateStores }, { on := 6, ground := Ground.textOnly Departure.lateStores }, { on := 7, ground := Ground.textOnly Departure.lateStoresUnsure }, { on := 8, ground := Ground.phase }, { on := 9, ground := Ground.phase }], guard := none }) rfl (fun K hK => ?_) AllReadyH.nil)
                refine st_wp rfl (wp_store_row 30 _ _ rfl (gA) #[.int .i64 p.2.1.1, .int .i64 (toL p)] rfl rfl 30 _ hA4 (wi_info _ _) rfl (wi_one _ _) ?_)
                have hG5 := hG4.setRow (g := gA) (.inl hlA) #[.int .i64 p.2.1.1, .int .i64 (toL p)]
                have hA5 := hA4.setRow #[.int .i64 p.2.1.1, .int .i64 (toL p)]
                have hB5 := hB4.farRow (k := gA) (by omega) #[.int .i64 p.2.1.1, .int .i64 (toL p)]
                refine hK.out _ _ ?_ (fun hHeld => ?_)
                · exact HS.out _ hG5
                clear hK K
                try simp only [Act.put, List.setIfInBounds_toArray, List.set_cons_zero, List.set_cons_succ]
                refine wpAnyH_ready (rs := [11]) (by kernel_rfl) (by simp) ?_
                refine (AllReadyH.cons (o := { dst := none, op := Op.store 30 (Operand.tmp 9) (Operand.tmp 26), type := 0, pos := _, after := #[{ on := 9, ground := Ground.data }, { on := 7, ground := Ground.data }, { on := 10, ground := Ground.chain }, { on := 0, ground := Ground.phase }, { on := 1, ground := Ground.phase }, { on := 2, ground := Ground.phase }, { on := 3, ground := Ground.phase }, { on := 4, ground := Ground.phase }, { on := 5, ground := Ground.phase }, { on := 6, ground := Ground.phase }, { on := 7, ground := Ground.phase }, { on := 8, ground := Ground.phase }, { on := 9, ground := Ground.phase }, { on := 10, ground := Ground.phase }], guard := none }) rfl (fun K hK => ?_) AllReadyH.nil)
                refine st_wp rfl (wp_store_row 30 _ _ rfl (gB) #[.int .i64 q.2.1.1, .int .i64 (toL q)] rfl rfl 30 _ hB5 (wi_info _ _) rfl (wi_one _ _) ?_)
                have hG6 := hG5.setRow (g := gB) (.inl hlB) #[.int .i64 q.2.1.1, .int .i64 (toL q)]
                have hB6 := hB5.setRow #[.int .i64 q.2.1.1, .int .i64 (toL q)]
                have hA6 := hA5.farRow (k := gB) (by omega) #[.int .i64 q.2.1.1, .int .i64 (toL q)]
                refine hK.out _ _ ?_ (fun hHeld => ?_)
                · exact HS.out _ hG6
                clear hK K
                try simp only [Act.put, List.setIfInBounds_toArray, List.set_cons_zero, List.set_cons_succ]
                refine wpAnyH_done (by kernel_rfl) ?_ _
                go_wp2_with fail
                go_meet
                case rel => exact ⟨_, _, rfl, rfl, hA6, hB6, hG6⟩
            · go_simp
              have hG2 := hG1.alloc (.cells #[.int .i64 0, .int .i64 0] 30)
              have hB2 := Bk.new w1_A 30 #[.int .i64 0, .int .i64 0]
              have hlB : wr.heap.size ≤ w1_A.heap.size := hG1.size
              have hne : gA ≠ w1_A.heap.size := Nat.ne_of_lt hA1.lt
              have hA2 := hA1.alloc (.cells #[.int .i64 0, .int .i64 0] 30)
              generalize w1_A.alloc (.cells #[.int .i64 0, .int .i64 0] 30) = w2_B at hG2 hB2 hA2 ⊢
              generalize w1_A.heap.size = gB at hB2 hlB hne ⊢
              refine hK.out _ _ ?_ (fun hHeld => ?_)
              · exact HS.out _ hG2
              clear hK K
              try simp only [Act.put, List.setIfInBounds_toArray, List.set_cons_zero, List.set_cons_succ]
              refine wpAnyH_ready (rs := [3]) (by kernel_rfl) (by simp) ?_
              refine (AllReadyH.cons (o := { dst := some 22, op := Op.call { callee := Callee.value (Operand.func 104), args := #[Operand.tmp 21], argTypes := #[79] }, type := 30, pos := _, after := #[{ on := 2, ground := Ground.data }], guard := none }) rfl (fun K hK => ?_) AllReadyH.nil)
              go_simp
              refine (lasts_c p _).mono ?_
              rintro e w3_p ⟨rfl, hh⟩
              have hG3 := hG2.trans hh
              have hA3 := hA2.quiet hh
              have hB3 := hB2.quiet hh
              clear hh
              refine hK.out _ _ ?_ (fun hHeld => ?_)
              · exact HS.out _ hG3
              clear hK K
              try simp only [Act.put, List.setIfInBounds_toArray, List.set_cons_zero, List.set_cons_succ]
              refine wpAnyH_ready (rs := [7]) (by kernel_rfl) (by simp) ?_
              refine (AllReadyH.cons (o := { dst := some 26, op := Op.call { callee := Callee.value (Operand.func 104), args := #[Operand.tmp 25], argTypes := #[79] }, type := 30, pos := _, after := #[{ on := 6, ground := Ground.data }, { on := 3, ground := Ground.chain }], guard := none }) rfl (fun K hK => ?_) AllReadyH.nil)
              go_simp
              refine (lasts_c q _).mono ?_
              rintro e w4_q ⟨rfl, hh⟩
              have hG4 := hG3.trans hh
              have hA4 := hA3.quiet hh
              have hB4 := hB3.quiet hh
              clear hh
              refine hK.out _ _ ?_ (fun hHeld => ?_)
              · exact HS.out _ hG4
              clear hK K
              try simp only [Act.put, List.setIfInBounds_toArray, List.set_cons_zero, List.set_cons_succ]
              refine wpAnyH_ready (rs := [10]) (by kernel_rfl) (by simp) ?_
              refine (AllReadyH.cons (o := { dst := none, op := Op.store 30 (Operand.tmp 8) (Operand.tmp 22), type := 0, pos := _, after := #[{ on := 8, ground := Ground.data }, { on := 3, ground := Ground.data }, { on := 7, ground := Ground.chain }, { on := 0, ground := Ground.phase }, { on := 1, ground := Ground.phase }, { on := 2, ground := Ground.phase }, { on := 3, ground := Ground.phase }, { on := 4, ground := Ground.textOnly Departure.lateStores }, { on := 5, ground := Ground.textOnly Departure.lateStores }, { on := 6, ground := Ground.textOnly Departure.lateStores }, { on := 7, ground := Ground.textOnly Departure.lateStoresUnsure }, { on := 8, ground := Ground.phase }, { on := 9, ground := Ground.phase }], guard := none }) rfl (fun K hK => ?_) AllReadyH.nil)
              refine st_wp rfl (wp_store_row 30 _ _ rfl (gA) #[.int .i64 p.2.1.1, .int .i64 (toL p)] rfl rfl 30 _ hA4 (wi_info _ _) rfl (wi_one _ _) ?_)
              have hG5 := hG4.setRow (g := gA) (.inl hlA) #[.int .i64 p.2.1.1, .int .i64 (toL p)]
              have hA5 := hA4.setRow #[.int .i64 p.2.1.1, .int .i64 (toL p)]
              have hB5 := hB4.farRow (k := gA) (by omega) #[.int .i64 p.2.1.1, .int .i64 (toL p)]
              refine hK.out _ _ ?_ (fun hHeld => ?_)
              · exact HS.out _ hG5
              clear hK K
              try simp only [Act.put, List.setIfInBounds_toArray, List.set_cons_zero, List.set_cons_succ]
              refine wpAnyH_ready (rs := [11]) (by kernel_rfl) (by simp) ?_
              refine (AllReadyH.cons (o := { dst := none, op := Op.store 30 (Operand.tmp 9) (Operand.tmp 26), type := 0, pos := _, after := #[{ on := 9, ground := Ground.data }, { on := 7, ground := Ground.data }, { on := 10, ground := Ground.chain }, { on := 0, ground := Ground.phase }, { on := 1, ground := Ground.phase }, { on := 2, ground := Ground.phase }, { on := 3, ground := Ground.phase }, { on := 4, ground := Ground.phase }, { on := 5, ground := Ground.phase }, { on := 6, ground := Ground.phase }, { on := 7, ground := Ground.phase }, { on := 8, ground := Ground.phase }, { on := 9, ground := Ground.phase }, { on := 10, ground := Ground.phase }], guard := none }) rfl (fun K hK => ?_) AllReadyH.nil)
              refine st_wp rfl (wp_store_row 30 _ _ rfl (gB) #[.int .i64 q.2.1.1, .int .i64 (toL q)] rfl rfl 30 _ hB5 (wi_info _ _) rfl (wi_one _ _) ?_)
              have hG6 := hG5.setRow (g := gB) (.inl hlB) #[.int .i64 q.2.1.1, .int .i64 (toL q)]
              have hB6 := hB5.setRow #[.int .i64 q.2.1.1, .int .i64 (toL q)]
              have hA6 := hA5.farRow (k := gB) (by omega) #[.int .i64 q.2.1.1, .int .i64 (toL q)]
              refine hK.out _ _ ?_ (fun hHeld => ?_)
              · exact HS.out _ hG6
              clear hK K
              try simp only [Act.put, List.setIfInBounds_toArray, List.set_cons_zero, List.set_cons_succ]
              refine wpAnyH_done (by kernel_rfl) ?_ _
              go_wp2_with fail
              go_meet
              case rel => exact ⟨_, _, rfl, rfl, hA6, hB6, hG6⟩
          · go_simp
            have hG1 := hG0.alloc (.cells #[.int .i64 0, .int .i64 0] 30)
            have hB1 := Bk.new wd 30 #[.int .i64 0, .int .i64 0]
            have hlB : wr.heap.size ≤ wd.heap.size := hG0.size
            generalize wd.alloc (.cells #[.int .i64 0, .int .i64 0] 30) = w1_B at hG1 hB1 ⊢
            generalize wd.heap.size = gB at hB1 hlB ⊢
            refine hK.out _ _ ?_ (fun hHeld => ?_)
            · exact HS.out _ hG1
            clear hK K
            try simp only [Act.put, List.setIfInBounds_toArray, List.set_cons_zero, List.set_cons_succ]
            refine wpAnyH_ready (rs := [3, 8]) (by kernel_rfl) (by simp) ?_
            refine (AllReadyH.cons (o := { dst := some 22, op := Op.call { callee := Callee.value (Operand.func 104), args := #[Operand.tmp 21], argTypes := #[79] }, type := 30, pos := _, after := #[{ on := 2, ground := Ground.data }], guard := none }) rfl (fun K hK => ?_) (AllReadyH.cons (o := { dst := some 8, op := Op.alloc 30, type := 0, pos := _, after := #[], guard := none }) rfl (fun K hK => ?_) AllReadyH.nil))
            · go_simp
              refine (lasts_c p _).mono ?_
              rintro e w2_p ⟨rfl, hh⟩
              have hG2 := hG1.trans hh
              have hB2 := hB1.quiet hh
              clear hh
              refine hK.out _ _ ?_ (fun hHeld => ?_)
              · exact HS.out _ hG2
              clear hK K
              try simp only [Act.put, List.setIfInBounds_toArray, List.set_cons_zero, List.set_cons_succ]
              refine wpAnyH_ready (rs := [7, 8]) (by kernel_rfl) (by simp) ?_
              refine (AllReadyH.cons (o := { dst := some 26, op := Op.call { callee := Callee.value (Operand.func 104), args := #[Operand.tmp 25], argTypes := #[79] }, type := 30, pos := _, after := #[{ on := 6, ground := Ground.data }, { on := 3, ground := Ground.chain }], guard := none }) rfl (fun K hK => ?_) (AllReadyH.cons (o := { dst := some 8, op := Op.alloc 30, type := 0, pos := _, after := #[], guard := none }) rfl (fun K hK => ?_) AllReadyH.nil))
              · go_simp
                refine (lasts_c q _).mono ?_
                rintro e w3_q ⟨rfl, hh⟩
                have hG3 := hG2.trans hh
                have hB3 := hB2.quiet hh
                clear hh
                refine hK.out _ _ ?_ (fun hHeld => ?_)
                · exact HS.out _ hG3
                clear hK K
                try simp only [Act.put, List.setIfInBounds_toArray, List.set_cons_zero, List.set_cons_succ]
                refine wpAnyH_ready (rs := [8]) (by kernel_rfl) (by simp) ?_
                refine (AllReadyH.cons (o := { dst := some 8, op := Op.alloc 30, type := 0, pos := _, after := #[], guard := none }) rfl (fun K hK => ?_) AllReadyH.nil)
                go_simp
                have hG4 := hG3.alloc (.cells #[.int .i64 0, .int .i64 0] 30)
                have hA4 := Bk.new w3_q 30 #[.int .i64 0, .int .i64 0]
                have hlA : wr.heap.size ≤ w3_q.heap.size := hG3.size
                have hne : gB ≠ w3_q.heap.size := Nat.ne_of_lt hB3.lt
                have hB4 := hB3.alloc (.cells #[.int .i64 0, .int .i64 0] 30)
                generalize w3_q.alloc (.cells #[.int .i64 0, .int .i64 0] 30) = w4_A at hG4 hA4 hB4 ⊢
                generalize w3_q.heap.size = gA at hA4 hlA hne ⊢
                refine hK.out _ _ ?_ (fun hHeld => ?_)
                · exact HS.out _ hG4
                clear hK K
                try simp only [Act.put, List.setIfInBounds_toArray, List.set_cons_zero, List.set_cons_succ]
                refine wpAnyH_ready (rs := [10]) (by kernel_rfl) (by simp) ?_
                refine (AllReadyH.cons (o := { dst := none, op := Op.store 30 (Operand.tmp 8) (Operand.tmp 22), type := 0, pos := _, after := #[{ on := 8, ground := Ground.data }, { on := 3, ground := Ground.data }, { on := 7, ground := Ground.chain }, { on := 0, ground := Ground.phase }, { on := 1, ground := Ground.phase }, { on := 2, ground := Ground.phase }, { on := 3, ground := Ground.phase }, { on := 4, ground := Ground.textOnly Departure.lateStores }, { on := 5, ground := Ground.textOnly Departure.lateStores }, { on := 6, ground := Ground.textOnly Departure.lateStores }, { on := 7, ground := Ground.textOnly Departure.lateStoresUnsure }, { on := 8, ground := Ground.phase }, { on := 9, ground := Ground.phase }], guard := none }) rfl (fun K hK => ?_) AllReadyH.nil)
                refine st_wp rfl (wp_store_row 30 _ _ rfl (gA) #[.int .i64 p.2.1.1, .int .i64 (toL p)] rfl rfl 30 _ hA4 (wi_info _ _) rfl (wi_one _ _) ?_)
                have hG5 := hG4.setRow (g := gA) (.inl hlA) #[.int .i64 p.2.1.1, .int .i64 (toL p)]
                have hA5 := hA4.setRow #[.int .i64 p.2.1.1, .int .i64 (toL p)]
                have hB5 := hB4.farRow (k := gA) (by omega) #[.int .i64 p.2.1.1, .int .i64 (toL p)]
                refine hK.out _ _ ?_ (fun hHeld => ?_)
                · exact HS.out _ hG5
                clear hK K
                try simp only [Act.put, List.setIfInBounds_toArray, List.set_cons_zero, List.set_cons_succ]
                refine wpAnyH_ready (rs := [11]) (by kernel_rfl) (by simp) ?_
                refine (AllReadyH.cons (o := { dst := none, op := Op.store 30 (Operand.tmp 9) (Operand.tmp 26), type := 0, pos := _, after := #[{ on := 9, ground := Ground.data }, { on := 7, ground := Ground.data }, { on := 10, ground := Ground.chain }, { on := 0, ground := Ground.phase }, { on := 1, ground := Ground.phase }, { on := 2, ground := Ground.phase }, { on := 3, ground := Ground.phase }, { on := 4, ground := Ground.phase }, { on := 5, ground := Ground.phase }, { on := 6, ground := Ground.phase }, { on := 7, ground := Ground.phase }, { on := 8, ground := Ground.phase }, { on := 9, ground := Ground.phase }, { on := 10, ground := Ground.phase }], guard := none }) rfl (fun K hK => ?_) AllReadyH.nil)
                refine st_wp rfl (wp_store_row 30 _ _ rfl (gB) #[.int .i64 q.2.1.1, .int .i64 (toL q)] rfl rfl 30 _ hB5 (wi_info _ _) rfl (wi_one _ _) ?_)
                have hG6 := hG5.setRow (g := gB) (.inl hlB) #[.int .i64 q.2.1.1, .int .i64 (toL q)]
                have hB6 := hB5.setRow #[.int .i64 q.2.1.1, .int .i64 (toL q)]
                have hA6 := hA5.farRow (k := gB) (by omega) #[.int .i64 q.2.1.1, .int .i64 (toL q)]
                refine hK.out _ _ ?_ (fun hHeld => ?_)
                · exact HS.out _ hG6
                clear hK K
                try simp only [Act.put, List.setIfInBounds_toArray, List.set_cons_zero, List.set_cons_succ]
                refine wpAnyH_done (by kernel_rfl) ?_ _
                go_wp2_with fail
                go_meet
                case rel => exact ⟨_, _, rfl, rfl, hA6, hB6, hG6⟩
              · go_simp
                have hG3 := hG2.alloc (.cells #[.int .i64 0, .int .i64 0] 30)
                have hA3 := Bk.new w2_p 30 #[.int .i64 0, .int .i64 0]
                have hlA : wr.heap.size ≤ w2_p.heap.size := hG2.size
                have hne : gB ≠ w2_p.heap.size := Nat.ne_of_lt hB2.lt
                have hB3 := hB2.alloc (.cells #[.int .i64 0, .int .i64 0] 30)
                generalize w2_p.alloc (.cells #[.int .i64 0, .int .i64 0] 30) = w3_A at hG3 hA3 hB3 ⊢
                generalize w2_p.heap.size = gA at hA3 hlA hne ⊢
                refine hK.out _ _ ?_ (fun hHeld => ?_)
                · exact HS.out _ hG3
                clear hK K
                try simp only [Act.put, List.setIfInBounds_toArray, List.set_cons_zero, List.set_cons_succ]
                refine wpAnyH_ready (rs := [7]) (by kernel_rfl) (by simp) ?_
                refine (AllReadyH.cons (o := { dst := some 26, op := Op.call { callee := Callee.value (Operand.func 104), args := #[Operand.tmp 25], argTypes := #[79] }, type := 30, pos := _, after := #[{ on := 6, ground := Ground.data }, { on := 3, ground := Ground.chain }], guard := none }) rfl (fun K hK => ?_) AllReadyH.nil)
                go_simp
                refine (lasts_c q _).mono ?_
                rintro e w4_q ⟨rfl, hh⟩
                have hG4 := hG3.trans hh
                have hA4 := hA3.quiet hh
                have hB4 := hB3.quiet hh
                clear hh
                refine hK.out _ _ ?_ (fun hHeld => ?_)
                · exact HS.out _ hG4
                clear hK K
                try simp only [Act.put, List.setIfInBounds_toArray, List.set_cons_zero, List.set_cons_succ]
                refine wpAnyH_ready (rs := [10]) (by kernel_rfl) (by simp) ?_
                refine (AllReadyH.cons (o := { dst := none, op := Op.store 30 (Operand.tmp 8) (Operand.tmp 22), type := 0, pos := _, after := #[{ on := 8, ground := Ground.data }, { on := 3, ground := Ground.data }, { on := 7, ground := Ground.chain }, { on := 0, ground := Ground.phase }, { on := 1, ground := Ground.phase }, { on := 2, ground := Ground.phase }, { on := 3, ground := Ground.phase }, { on := 4, ground := Ground.textOnly Departure.lateStores }, { on := 5, ground := Ground.textOnly Departure.lateStores }, { on := 6, ground := Ground.textOnly Departure.lateStores }, { on := 7, ground := Ground.textOnly Departure.lateStoresUnsure }, { on := 8, ground := Ground.phase }, { on := 9, ground := Ground.phase }], guard := none }) rfl (fun K hK => ?_) AllReadyH.nil)
                refine st_wp rfl (wp_store_row 30 _ _ rfl (gA) #[.int .i64 p.2.1.1, .int .i64 (toL p)] rfl rfl 30 _ hA4 (wi_info _ _) rfl (wi_one _ _) ?_)
                have hG5 := hG4.setRow (g := gA) (.inl hlA) #[.int .i64 p.2.1.1, .int .i64 (toL p)]
                have hA5 := hA4.setRow #[.int .i64 p.2.1.1, .int .i64 (toL p)]
                have hB5 := hB4.farRow (k := gA) (by omega) #[.int .i64 p.2.1.1, .int .i64 (toL p)]
                refine hK.out _ _ ?_ (fun hHeld => ?_)
                · exact HS.out _ hG5
                clear hK K
                try simp only [Act.put, List.setIfInBounds_toArray, List.set_cons_zero, List.set_cons_succ]
                refine wpAnyH_ready (rs := [11]) (by kernel_rfl) (by simp) ?_
                refine (AllReadyH.cons (o := { dst := none, op := Op.store 30 (Operand.tmp 9) (Operand.tmp 26), type := 0, pos := _, after := #[{ on := 9, ground := Ground.data }, { on := 7, ground := Ground.data }, { on := 10, ground := Ground.chain }, { on := 0, ground := Ground.phase }, { on := 1, ground := Ground.phase }, { on := 2, ground := Ground.phase }, { on := 3, ground := Ground.phase }, { on := 4, ground := Ground.phase }, { on := 5, ground := Ground.phase }, { on := 6, ground := Ground.phase }, { on := 7, ground := Ground.phase }, { on := 8, ground := Ground.phase }, { on := 9, ground := Ground.phase }, { on := 10, ground := Ground.phase }], guard := none }) rfl (fun K hK => ?_) AllReadyH.nil)
                refine st_wp rfl (wp_store_row 30 _ _ rfl (gB) #[.int .i64 q.2.1.1, .int .i64 (toL q)] rfl rfl 30 _ hB5 (wi_info _ _) rfl (wi_one _ _) ?_)
                have hG6 := hG5.setRow (g := gB) (.inl hlB) #[.int .i64 q.2.1.1, .int .i64 (toL q)]
                have hB6 := hB5.setRow #[.int .i64 q.2.1.1, .int .i64 (toL q)]
                have hA6 := hA5.farRow (k := gB) (by omega) #[.int .i64 q.2.1.1, .int .i64 (toL q)]
                refine hK.out _ _ ?_ (fun hHeld => ?_)
                · exact HS.out _ hG6
                clear hK K
                try simp only [Act.put, List.setIfInBounds_toArray, List.set_cons_zero, List.set_cons_succ]
                refine wpAnyH_done (by kernel_rfl) ?_ _
                go_wp2_with fail
                go_meet
                case rel => exact ⟨_, _, rfl, rfl, hA6, hB6, hG6⟩
            · go_simp
              have hG2 := hG1.alloc (.cells #[.int .i64 0, .int .i64 0] 30)
              have hA2 := Bk.new w1_B 30 #[.int .i64 0, .int .i64 0]
              have hlA : wr.heap.size ≤ w1_B.heap.size := hG1.size
              have hne : gB ≠ w1_B.heap.size := Nat.ne_of_lt hB1.lt
              have hB2 := hB1.alloc (.cells #[.int .i64 0, .int .i64 0] 30)
              generalize w1_B.alloc (.cells #[.int .i64 0, .int .i64 0] 30) = w2_A at hG2 hA2 hB2 ⊢
              generalize w1_B.heap.size = gA at hA2 hlA hne ⊢
              refine hK.out _ _ ?_ (fun hHeld => ?_)
              · exact HS.out _ hG2
              clear hK K
              try simp only [Act.put, List.setIfInBounds_toArray, List.set_cons_zero, List.set_cons_succ]
              refine wpAnyH_ready (rs := [3]) (by kernel_rfl) (by simp) ?_
              refine (AllReadyH.cons (o := { dst := some 22, op := Op.call { callee := Callee.value (Operand.func 104), args := #[Operand.tmp 21], argTypes := #[79] }, type := 30, pos := _, after := #[{ on := 2, ground := Ground.data }], guard := none }) rfl (fun K hK => ?_) AllReadyH.nil)
              go_simp
              refine (lasts_c p _).mono ?_
              rintro e w3_p ⟨rfl, hh⟩
              have hG3 := hG2.trans hh
              have hA3 := hA2.quiet hh
              have hB3 := hB2.quiet hh
              clear hh
              refine hK.out _ _ ?_ (fun hHeld => ?_)
              · exact HS.out _ hG3
              clear hK K
              try simp only [Act.put, List.setIfInBounds_toArray, List.set_cons_zero, List.set_cons_succ]
              refine wpAnyH_ready (rs := [7]) (by kernel_rfl) (by simp) ?_
              refine (AllReadyH.cons (o := { dst := some 26, op := Op.call { callee := Callee.value (Operand.func 104), args := #[Operand.tmp 25], argTypes := #[79] }, type := 30, pos := _, after := #[{ on := 6, ground := Ground.data }, { on := 3, ground := Ground.chain }], guard := none }) rfl (fun K hK => ?_) AllReadyH.nil)
              go_simp
              refine (lasts_c q _).mono ?_
              rintro e w4_q ⟨rfl, hh⟩
              have hG4 := hG3.trans hh
              have hA4 := hA3.quiet hh
              have hB4 := hB3.quiet hh
              clear hh
              refine hK.out _ _ ?_ (fun hHeld => ?_)
              · exact HS.out _ hG4
              clear hK K
              try simp only [Act.put, List.setIfInBounds_toArray, List.set_cons_zero, List.set_cons_succ]
              refine wpAnyH_ready (rs := [10]) (by kernel_rfl) (by simp) ?_
              refine (AllReadyH.cons (o := { dst := none, op := Op.store 30 (Operand.tmp 8) (Operand.tmp 22), type := 0, pos := _, after := #[{ on := 8, ground := Ground.data }, { on := 3, ground := Ground.data }, { on := 7, ground := Ground.chain }, { on := 0, ground := Ground.phase }, { on := 1, ground := Ground.phase }, { on := 2, ground := Ground.phase }, { on := 3, ground := Ground.phase }, { on := 4, ground := Ground.textOnly Departure.lateStores }, { on := 5, ground := Ground.textOnly Departure.lateStores }, { on := 6, ground := Ground.textOnly Departure.lateStores }, { on := 7, ground := Ground.textOnly Departure.lateStoresUnsure }, { on := 8, ground := Ground.phase }, { on := 9, ground := Ground.phase }], guard := none }) rfl (fun K hK => ?_) AllReadyH.nil)
              refine st_wp rfl (wp_store_row 30 _ _ rfl (gA) #[.int .i64 p.2.1.1, .int .i64 (toL p)] rfl rfl 30 _ hA4 (wi_info _ _) rfl (wi_one _ _) ?_)
              have hG5 := hG4.setRow (g := gA) (.inl hlA) #[.int .i64 p.2.1.1, .int .i64 (toL p)]
              have hA5 := hA4.setRow #[.int .i64 p.2.1.1, .int .i64 (toL p)]
              have hB5 := hB4.farRow (k := gA) (by omega) #[.int .i64 p.2.1.1, .int .i64 (toL p)]
              refine hK.out _ _ ?_ (fun hHeld => ?_)
              · exact HS.out _ hG5
              clear hK K
              try simp only [Act.put, List.setIfInBounds_toArray, List.set_cons_zero, List.set_cons_succ]
              refine wpAnyH_ready (rs := [11]) (by kernel_rfl) (by simp) ?_
              refine (AllReadyH.cons (o := { dst := none, op := Op.store 30 (Operand.tmp 9) (Operand.tmp 26), type := 0, pos := _, after := #[{ on := 9, ground := Ground.data }, { on := 7, ground := Ground.data }, { on := 10, ground := Ground.chain }, { on := 0, ground := Ground.phase }, { on := 1, ground := Ground.phase }, { on := 2, ground := Ground.phase }, { on := 3, ground := Ground.phase }, { on := 4, ground := Ground.phase }, { on := 5, ground := Ground.phase }, { on := 6, ground := Ground.phase }, { on := 7, ground := Ground.phase }, { on := 8, ground := Ground.phase }, { on := 9, ground := Ground.phase }, { on := 10, ground := Ground.phase }], guard := none }) rfl (fun K hK => ?_) AllReadyH.nil)
              refine st_wp rfl (wp_store_row 30 _ _ rfl (gB) #[.int .i64 q.2.1.1, .int .i64 (toL q)] rfl rfl 30 _ hB5 (wi_info _ _) rfl (wi_one _ _) ?_)
              have hG6 := hG5.setRow (g := gB) (.inl hlB) #[.int .i64 q.2.1.1, .int .i64 (toL q)]
              have hB6 := hB5.setRow #[.int .i64 q.2.1.1, .int .i64 (toL q)]
              have hA6 := hA5.farRow (k := gB) (by omega) #[.int .i64 q.2.1.1, .int .i64 (toL q)]
              refine hK.out _ _ ?_ (fun hHeld => ?_)
              · exact HS.out _ hG6
              clear hK K
              try simp only [Act.put, List.setIfInBounds_toArray, List.set_cons_zero, List.set_cons_succ]
              refine wpAnyH_done (by kernel_rfl) ?_ _
              go_wp2_with fail
              go_meet
              case rel => exact ⟨_, _, rfl, rfl, hA6, hB6, hG6⟩
        case rest =>
          obtain ⟨g8, g9, rfl, rfl, hA, hBB, hG2⟩ := hcut
          have HGW := Lib.hid hG
          rw [List.length_cons] at hnx hny
          clear hG
          have c8 : wc.cell? ⟨g8, 0, none⟩ = some (.int .i64 p.2.1.1) := hA.cell 0
          have c9 : wc.cell? ⟨g9, 0, none⟩ = some (.int .i64 q.2.1.1) := hBB.cell 0
          go_upto_region 4 with fail
          clear c8 c9
          have hq := (G.refl wc none).drew
          replace hA := hA.quiet hq
          replace hBB := hBB.quiet hq
          replace hG2 := hG2.trans hq
          clear hq
          by_cases hlt : max p.2.1.1 q.2.1.1 < min (toL p) (toL q)
          · refine wp_region_held_drew (S := (fun w' : World => w'.cell? ⟨g8, 1, none⟩ = some (.int .i64 (toL p)) ∧ w'.cell? ⟨g9, 1, none⟩ = some (.int .i64 (toL q)) ∧ w'.cell? ⟨b1, o1, none⟩ = some (.string p.1) ∧ w'.cell? ⟨b1, o1 + 1, none⟩ = some (.int .i64 p.2.1.1) ∧ w'.cell? ⟨b1, o1 + 2, none⟩ = some (.string p.2.1.2.1) ∧ w'.cell? ⟨b1, o1 + 3, none⟩ = some (.int .i64 p.2.1.2.2.1) ∧ w'.cell? ⟨b1, o1 + 4, none⟩ = some (.int .i64 p.2.1.2.2.2) ∧ w'.cell? ⟨b1, o1 + 5, none⟩ = some (.int .i64 p.2.2.1) ∧ w'.cell? ⟨b1, o1 + 6, none⟩ = some (.string p.2.2.2.1) ∧ w'.cell? ⟨b1, o1 + 7, none⟩ = some (.int .i64 p.2.2.2.2.1) ∧ w'.cell? ⟨b1, o1 + 8, none⟩ = some (.int .i64 p.2.2.2.2.2) ∧ w'.cell? ⟨b2, o2, none⟩ = some (.string q.1) ∧ w'.cell? ⟨b2, o2 + 1, none⟩ = some (.int .i64 q.2.1.1) ∧ w'.cell? ⟨b2, o2 + 2, none⟩ = some (.string q.2.1.2.1) ∧ w'.cell? ⟨b2, o2 + 3, none⟩ = some (.int .i64 q.2.1.2.2.1) ∧ w'.cell? ⟨b2, o2 + 4, none⟩ = some (.int .i64 q.2.1.2.2.2) ∧ w'.cell? ⟨b2, o2 + 5, none⟩ = some (.int .i64 q.2.2.1) ∧ w'.cell? ⟨b2, o2 + 6, none⟩ = some (.string q.2.2.2.1) ∧ w'.cell? ⟨b2, o2 + 7, none⟩ = some (.int .i64 q.2.2.2.2.1) ∧ w'.cell? ⟨b2, o2 + 8, none⟩ = some (.int .i64 q.2.2.2.2.2))) (by kernel_rfl) ?_ (fun hHeld => ?_)
            · exact ⟨hA.cell 1, hBB.cell 1, HS.out _ hG2⟩
            refine wpAnyH_take (i := 0) (oi := { dst := some 32, op := Op.move (Operand.tmp 10), type := 3, pos := _, after := #[], guard := none }) (v := ?_) rfl (by kernel_rfl) (by kernel_rfl) (by kernel_rfl) (fun _ _ _ h => h) (Or.inl ⟨by rfl, ?_⟩) (by assumption) ?_
            rotate_left
            · (intro w hSw; obtain ⟨z0, z1, s0, s1, s2, s3, s4, s5, s6, s7, s8, s9, s10, s11, s12, s13, s14, s15, s16, s17⟩ := hSw; (go_simp <;> with_reducible rfl))
            try simp only [Act.put, List.setIfInBounds_toArray, List.set_cons_zero, List.set_cons_succ]
            refine wpAnyH_take (i := 1) (oi := { dst := some 33, op := Op.fieldAddr 30 (Operand.tmp 8) 1, type := 0, pos := _, after := #[], guard := none }) (v := ?_) rfl (by kernel_rfl) (by kernel_rfl) (by kernel_rfl) (fun _ _ _ h => h) (Or.inl ⟨by rfl, ?_⟩) (by assumption) ?_
            rotate_left
            · (intro w hSw; obtain ⟨z0, z1, s0, s1, s2, s3, s4, s5, s6, s7, s8, s9, s10, s11, s12, s13, s14, s15, s16, s17⟩ := hSw; (go_simp <;> with_reducible rfl))
            try simp only [Act.put, List.setIfInBounds_toArray, List.set_cons_zero, List.set_cons_succ]
            refine wpAnyH_take (i := 2) (oi := { dst := some 34, op := Op.load 3 (Operand.tmp 33), type := 3, pos := _, after := #[{ on := 1, ground := Ground.data }], guard := none }) (v := ?_) rfl (by kernel_rfl) (by kernel_rfl) (by kernel_rfl) (fun _ _ _ h => h) (Or.inl ⟨by rfl, ?_⟩) (by assumption) ?_
            rotate_left
            · (intro w hSw; obtain ⟨z0, z1, s0, s1, s2, s3, s4, s5, s6, s7, s8, s9, s10, s11, s12, s13, s14, s15, s16, s17⟩ := hSw; (go_simp <;> with_reducible rfl))
            try simp only [Act.put, List.setIfInBounds_toArray, List.set_cons_zero, List.set_cons_succ]
            refine wpAnyH_take (i := 3) (oi := { dst := some 35, op := Op.fieldAddr 30 (Operand.tmp 9) 1, type := 0, pos := _, after := #[], guard := none }) (v := ?_) rfl (by kernel_rfl) (by kernel_rfl) (by kernel_rfl) (fun _ _ _ h => h) (Or.inl ⟨by rfl, ?_⟩) (by assumption) ?_
            rotate_left
            · (intro w hSw; obtain ⟨z0, z1, s0, s1, s2, s3, s4, s5, s6, s7, s8, s9, s10, s11, s12, s13, s14, s15, s16, s17⟩ := hSw; (go_simp <;> with_reducible rfl))
            try simp only [Act.put, List.setIfInBounds_toArray, List.set_cons_zero, List.set_cons_succ]
            refine wpAnyH_take (i := 4) (oi := { dst := some 36, op := Op.load 3 (Operand.tmp 35), type := 3, pos := _, after := #[{ on := 3, ground := Ground.data }], guard := none }) (v := ?_) rfl (by kernel_rfl) (by kernel_rfl) (by kernel_rfl) (fun _ _ _ h => h) (Or.inl ⟨by rfl, ?_⟩) (by assumption) ?_
            rotate_left
            · (intro w hSw; obtain ⟨z0, z1, s0, s1, s2, s3, s4, s5, s6, s7, s8, s9, s10, s11, s12, s13, s14, s15, s16, s17⟩ := hSw; (go_simp <;> with_reducible rfl))
            try simp only [Act.put, List.setIfInBounds_toArray, List.set_cons_zero, List.set_cons_succ]
            refine wpAnyH_take (i := 5) (oi := { dst := some 37, op := Op.call { callee := Callee.builtin Builtin.min, args := #[Operand.tmp 34, Operand.tmp 36], argTypes := #[3, 3] }, type := 3, pos := _, after := #[{ on := 2, ground := Ground.data }, { on := 4, ground := Ground.data }], guard := none }) (v := ?_) rfl (by kernel_rfl) (by kernel_rfl) (by kernel_rfl) (fun _ _ _ h => h) (Or.inl ⟨by rfl, ?_⟩) (by assumption) ?_
            rotate_left
            · (intro w hSw; obtain ⟨z0, z1, s0, s1, s2, s3, s4, s5, s6, s7, s8, s9, s10, s11, s12, s13, s14, s15, s16, s17⟩ := hSw; (go_simp <;> with_reducible rfl))
            try simp only [Act.put, List.setIfInBounds_toArray, List.set_cons_zero, List.set_cons_succ]
            refine wpAnyH_take (i := 6) (oi := { dst := some 38, op := Op.binOp BinOp.lss 3 (Operand.tmp 32) (Operand.tmp 37) 3, type := 4, pos := _, after := #[{ on := 0, ground := Ground.data }, { on := 5, ground := Ground.data }], guard := none }) (v := ?_) rfl (by kernel_rfl) (by kernel_rfl) (by kernel_rfl) (fun _ _ _ h => h) (Or.inl ⟨by rfl, ?_⟩) (by assumption) ?_
            rotate_left
            · (intro w hSw; obtain ⟨z0, z1, s0, s1, s2, s3, s4, s5, s6, s7, s8, s9, s10, s11, s12, s13, s14, s15, s16, s17⟩ := hSw; (go_simp <;> with_reducible rfl))
            try simp only [Act.put, List.setIfInBounds_toArray, List.set_cons_zero, List.set_cons_succ]
            refine wpAnyH_take (i := 7) (oi := { dst := some 39, op := Op.move (Operand.tmp 38), type := 4, pos := _, after := #[{ on := 6, ground := Ground.data }], guard := none }) (v := ?_) rfl (by kernel_rfl) (by kernel_rfl) (by kernel_rfl) (fun _ _ _ h => h) (Or.inl ⟨by rfl, ?_⟩) (by assumption) ?_
            rotate_left
            · (intro w hSw; obtain ⟨z0, z1, s0, s1, s2, s3, s4, s5, s6, s7, s8, s9, s10, s11, s12, s13, s14, s15, s16, s17⟩ := hSw; (go_simp <;> with_reducible rfl))
            try simp only [Act.put, List.setIfInBounds_toArray, List.set_cons_zero, List.set_cons_succ]
            refine wpAnyH_take (i := 8) (oi := { dst := some 40, op := Op.move (Operand.tmp 2), type := 188, pos := _, after := #[{ on := 7, ground := Ground.guard }], guard := some (7, true) }) (v := ?_) rfl (by kernel_rfl) (by kernel_rfl) (by kernel_rfl) (fun _ _ _ h => h) (Or.inl ⟨by rfl, ?_⟩) (by assumption) ?_
            rotate_left
            · (intro w hSw; obtain ⟨z0, z1, s0, s1, s2, s3, s4, s5, s6, s7, s8, s9, s10, s11, s12, s13, s14, s15, s16, s17⟩ := hSw; (go_simp <;> with_reducible rfl))
            try simp only [Act.put, List.setIfInBounds_toArray, List.set_cons_zero, List.set_cons_succ]
            refine wpAnyH_take (i := 9) (oi := { dst := some 41, op := Op.move (Operand.tmp 0), type := 31, pos := _, after := #[{ on := 7, ground := Ground.guard }], guard := some (7, true) }) (v := ?_) rfl (by kernel_rfl) (by kernel_rfl) (by kernel_rfl) (fun _ _ _ h => h) (Or.inl ⟨by rfl, ?_⟩) (by assumption) ?_
            rotate_left
            · (intro w hSw; obtain ⟨z0, z1, s0, s1, s2, s3, s4, s5, s6, s7, s8, s9, s10, s11, s12, s13, s14, s15, s16, s17⟩ := hSw; (go_simp <;> with_reducible rfl))
            try simp only [Act.put, List.setIfInBounds_toArray, List.set_cons_zero, List.set_cons_succ]
            refine wpAnyH_take (i := 10) (oi := { dst := some 42, op := Op.indexAddr 31 (Operand.tmp 41) (Operand.const (Value.int IntKind.i64 0)), type := 0, pos := _, after := #[{ on := 9, ground := Ground.data }, { on := 7, ground := Ground.guard }], guard := some (7, true) }) (v := ?_) rfl (by kernel_rfl) (by kernel_rfl) (by kernel_rfl) (fun _ _ _ h => h) (Or.inl ⟨by rfl, ?_⟩) (by assumption) ?_
            rotate_left
            · (intro w hSw; obtain ⟨z0, z1, s0, s1, s2, s3, s4, s5, s6, s7, s8, s9, s10, s11, s12, s13, s14, s15, s16, s17⟩ := hSw; (go_simp <;> with_reducible rfl))
            try simp only [Act.put, List.setIfInBounds_toArray, List.set_cons_zero, List.set_cons_succ]
            refine wpAnyH_take (i := 11) (oi := { dst := some 43, op := Op.load 79 (Operand.tmp 42), type := 79, pos := _, after := #[{ on := 10, ground := Ground.data }, { on := 7, ground := Ground.guard }], guard := some (7, true) }) (v := ?_) rfl (by kernel_rfl) (by kernel_rfl) (by kernel_rfl) (fun _ _ _ h => h) (Or.inl ⟨by rfl, ?_⟩) (by assumption) ?_
            rotate_left
            · (intro w hSw; obtain ⟨z0, z1, s0, s1, s2, s3, s4, s5, s6, s7, s8, s9, s10, s11, s12, s13, s14, s15, s16, s17⟩ := hSw; (go_simp <;> with_reducible rfl))
            try simp only [Act.put, List.setIfInBounds_toArray, List.set_cons_zero, List.set_cons_succ]
            refine wpAnyH_take (i := 12) (oi := { dst := some 44, op := Op.move (Operand.tmp 1), type := 31, pos := _, after := #[{ on := 7, ground := Ground.guard }], guard := some (7, true) }) (v := ?_) rfl (by kernel_rfl) (by kernel_rfl) (by kernel_rfl) (fun _ _ _ h => h) (Or.inl ⟨by rfl, ?_⟩) (by assumption) ?_
            rotate_left
            · (intro w hSw; obtain ⟨z0, z1, s0, s1, s2, s3, s4, s5, s6, s7, s8, s9, s10, s11, s12, s13, s14, s15, s16, s17⟩ := hSw; (go_simp <;> with_reducible rfl))
            try simp only [Act.put, List.setIfInBounds_toArray, List.set_cons_zero, List.set_cons_succ]
            refine wpAnyH_take (i := 13) (oi := { dst := some 45, op := Op.indexAddr 31 (Operand.tmp 44) (Operand.const (Value.int IntKind.i64 0)), type := 0, pos := _, after := #[{ on := 12, ground := Ground.data }, { on := 7, ground := Ground.guard }], guard := some (7, true) }) (v := ?_) rfl (by kernel_rfl) (by kernel_rfl) (by kernel_rfl) (fun _ _ _ h => h) (Or.inl ⟨by rfl, ?_⟩) (by assumption) ?_
            rotate_left
            · (intro w hSw; obtain ⟨z0, z1, s0, s1, s2, s3, s4, s5, s6, s7, s8, s9, s10, s11, s12, s13, s14, s15, s16, s17⟩ := hSw; (go_simp <;> with_reducible rfl))
            try simp only [Act.put, List.setIfInBounds_toArray, List.set_cons_zero, List.set_cons_succ]
            refine wpAnyH_take (i := 14) (oi := { dst := some 46, op := Op.load 79 (Operand.tmp 45), type := 79, pos := _, after := #[{ on := 13, ground := Ground.data }, { on := 7, ground := Ground.guard }], guard := some (7, true) }) (v := ?_) rfl (by kernel_rfl) (by kernel_rfl) (by kernel_rfl) (fun _ _ _ h => h) (Or.inl ⟨by rfl, ?_⟩) (by assumption) ?_
            rotate_left
            · (intro w hSw; obtain ⟨z0, z1, s0, s1, s2, s3, s4, s5, s6, s7, s8, s9, s10, s11, s12, s13, s14, s15, s16, s17⟩ := hSw; (go_simp <;> with_reducible rfl))
            try simp only [Act.put, List.setIfInBounds_toArray, List.set_cons_zero, List.set_cons_succ]
            refine wpAnyH_ready (rs := [15]) (by kernel_rfl) (by simp) ?_
            refine AllReadyH.cons (o := { dst := some 47, op := Op.call { callee := Callee.value (Operand.tmp 40), args := #[Operand.tmp 43, Operand.tmp 46], argTypes := #[79, 79] }, type := 4, pos := _, after := #[{ on := 8, ground := Ground.data }, { on := 11, ground := Ground.data }, { on := 14, ground := Ground.data }, { on := 7, ground := Ground.chain }, { on := 7, ground := Ground.guard }], guard := some (7, true) }) rfl (fun K hK => ?_) AllReadyH.nil
            go_simp
            refine (HAL.out p q _ (HGW.out.trans hG2)).mono ?_
            rintro e w4 ⟨rfl, hh⟩
            replace hA := hA.quiet hh
            replace hBB := hBB.quiet hh
            replace hG2 := hG2.trans hh
            clear hh
            refine hK.out _ _ ?_ (fun hHeld => ?_)
            · exact ⟨hA.cell 1, hBB.cell 1, HS.out _ hG2⟩
            clear hK K
            try simp only [Act.put, List.setIfInBounds_toArray, List.set_cons_zero, List.set_cons_succ]
            refine wpAnyH_take (i := 16) (oi := { dst := some 48, op := Op.pick (Operand.tmp 39) (Operand.tmp 47) (Operand.const (Value.bool false)), type := 4, pos := _, after := #[{ on := 7, ground := Ground.data }, { on := 15, ground := Ground.data }], guard := none }) (v := ?_) rfl (by kernel_rfl) (by kernel_rfl) (by kernel_rfl) (fun _ _ _ h => h) (Or.inl ⟨by rfl, ?_⟩) (by assumption) ?_
            rotate_left
            · (intro w hSw; obtain ⟨z0, z1, s0, s1, s2, s3, s4, s5, s6, s7, s8, s9, s10, s11, s12, s13, s14, s15, s16, s17⟩ := hSw; (go_simp <;> with_reducible rfl))
            try simp only [Act.put, List.setIfInBounds_toArray, List.set_cons_zero, List.set_cons_succ]
            refine wpAnyH_done (by kernel_rfl) ?_ _
            have d8 : w4.cell? ⟨g8, 1, none⟩ = some (.int .i64 (toL p)) := hA.cell 1
            have d9 : w4.cell? ⟨g9, 1, none⟩ = some (.int .i64 (toL q)) := hBB.cell 1
            cases hap : al p q with
            | true =>
              have hck : ckP al p q = true := by simp [ckP, hlt, hap]
              have hO : meO al la lb = some (max p.2.1.1 q.2.1.1) := by rw [HD.out, if_pos hck]
              have hNN : N = max p.2.1.1 q.2.1.1 := by rw [HN.out, hO]; rfl
              obtain rfl : B = true := by rw [HB.out, hO]; rfl
              clear HN HB HD hO hck hap hlt
              generalize max p.2.1.1 q.2.1.1 = M at hNN ⊢
              subst hNN
              go_wp2_with fail
              go_ret2
              exact ⟨rfl, HGW.out.trans hG2⟩
            | false =>
              have hck : ckP al p q = false := by simp [ckP, hap]
              clear hap
              clear hlt
              have HD2 : Hid (meO al la lb = if toL p ≤ toL q then meO al x (q :: y) else meO al (p :: x) y) := Lib.hid (by rw [HD.out, if_neg (by simp [hck])])
              clear HD hck
              by_cases hle : toL p ≤ toL q
              · have HF : Hid (meO al la lb = meO al x (q :: y)) := Lib.hid (by rw [HD2.out, if_pos hle])
                have HT := Lib.hid (RdR.tail lgC_sz (by have := HX.out; exact this))
                clear HD2
                have h1n : (1 : Int) ≤ (n1 : Int) := by omega
                by_cases hcx : cx = 1
                · go_wp2_with fail
                  go_roundg (x.length + (y.length + 1))
                  case rel => exact ⟨x, q :: y, by simp, by omega, by simp; omega, HF.out, by have := HT.out; rw [if_pos hcx, hcx] at this; have e := HN1.out; subst e; exact this, by have e := HN2.out; subst e; exact HY.out, HGW.out.trans hG2⟩
                  case measure => first | (simp; done) | (simp; omega)
                · go_wp2_with fail
                  go_roundg (x.length + (y.length + 1))
                  case rel => exact ⟨x, q :: y, by simp, by omega, by simp; omega, HF.out, by have := HT.out; rw [if_neg hcx] at this; have e := HN1.out; subst e; exact this, by have e := HN2.out; subst e; exact HY.out, HGW.out.trans hG2⟩
                  case measure => first | (simp; done) | (simp; omega)
              · have HF : Hid (meO al la lb = meO al (p :: x) y) := Lib.hid (by rw [HD2.out, if_neg hle])
                have HT := Lib.hid (RdR.tail lgC_sz (by have := HY.out; exact this))
                clear HD2
                have h1n : (1 : Int) ≤ (n2 : Int) := by omega
                by_cases hcy2 : cy = 1
                · go_wp2_with fail
                  go_roundg ((x.length + 1) + y.length)
                  case rel => exact ⟨p :: x, y, by simp, by simp; omega, by omega, HF.out, by have e := HN1.out; subst e; exact HX.out, by have := HT.out; rw [if_pos hcy2, hcy2] at this; have e := HN2.out; subst e; exact this, HGW.out.trans hG2⟩
                  case measure => first | (simp; done) | (simp; omega)
                · go_wp2_with fail
                  go_roundg ((x.length + 1) + y.length)
                  case rel => exact ⟨p :: x, y, by simp, by simp; omega, by omega, HF.out, by have e := HN1.out; subst e; exact HX.out, by have := HT.out; rw [if_neg hcy2] at this; have e := HN2.out; subst e; exact this, HGW.out.trans hG2⟩
                  case measure => first | (simp; done) | (simp; omega)
          · refine wp_region_held_drew (S := (fun w' : World => w'.cell? ⟨g8, 1, none⟩ = some (.int .i64 (toL p)) ∧ w'.cell? ⟨g9, 1, none⟩ = some (.int .i64 (toL q)) ∧ w'.cell? ⟨b1, o1, none⟩ = some (.string p.1) ∧ w'.cell? ⟨b1, o1 + 1, none⟩ = some (.int .i64 p.2.1.1) ∧ w'.cell? ⟨b1, o1 + 2, none⟩ = some (.string p.2.1.2.1) ∧ w'.cell? ⟨b1, o1 + 3, none⟩ = some (.int .i64 p.2.1.2.2.1) ∧ w'.cell? ⟨b1, o1 + 4, none⟩ = some (.int .i64 p.2.1.2.2.2) ∧ w'.cell? ⟨b1, o1 + 5, none⟩ = some (.int .i64 p.2.2.1) ∧ w'.cell? ⟨b1, o1 + 6, none⟩ = some (.string p.2.2.2.1) ∧ w'.cell? ⟨b1, o1 + 7, none⟩ = some (.int .i64 p.2.2.2.2.1) ∧ w'.cell? ⟨b1, o1 + 8, none⟩ = some (.int .i64 p.2.2.2.2.2) ∧ w'.cell? ⟨b2, o2, none⟩ = some (.string q.1) ∧ w'.cell? ⟨b2, o2 + 1, none⟩ = some (.int .i64 q.2.1.1) ∧ w'.cell? ⟨b2, o2 + 2, none⟩ = some (.string q.2.1.2.1) ∧ w'.cell? ⟨b2, o2 + 3, none⟩ = some (.int .i64 q.2.1.2.2.1) ∧ w'.cell? ⟨b2, o2 + 4, none⟩ = some (.int .i64 q.2.1.2.2.2) ∧ w'.cell? ⟨b2, o2 + 5, none⟩ = some (.int .i64 q.2.2.1) ∧ w'.cell? ⟨b2, o2 + 6, none⟩ = some (.string q.2.2.2.1) ∧ w'.cell? ⟨b2, o2 + 7, none⟩ = some (.int .i64 q.2.2.2.2.1) ∧ w'.cell? ⟨b2, o2 + 8, none⟩ = some (.int .i64 q.2.2.2.2.2))) (by kernel_rfl) ?_ (fun hHeld => ?_)
            · exact ⟨hA.cell 1, hBB.cell 1, HS.out _ hG2⟩
            refine wpAnyH_take (i := 0) (oi := { dst := some 32, op := Op.move (Operand.tmp 10), type := 3, pos := _, after := #[], guard := none }) (v := ?_) rfl (by kernel_rfl) (by kernel_rfl) (by kernel_rfl) (fun _ _ _ h => h) (Or.inl ⟨by rfl, ?_⟩) (by assumption) ?_
            rotate_left
            · (intro w hSw; obtain ⟨z0, z1, s0, s1, s2, s3, s4, s5, s6, s7, s8, s9, s10, s11, s12, s13, s14, s15, s16, s17⟩ := hSw; (go_simp <;> with_reducible rfl))
            try simp only [Act.put, List.setIfInBounds_toArray, List.set_cons_zero, List.set_cons_succ]
            refine wpAnyH_take (i := 1) (oi := { dst := some 33, op := Op.fieldAddr 30 (Operand.tmp 8) 1, type := 0, pos := _, after := #[], guard := none }) (v := ?_) rfl (by kernel_rfl) (by kernel_rfl) (by kernel_rfl) (fun _ _ _ h => h) (Or.inl ⟨by rfl, ?_⟩) (by assumption) ?_
            rotate_left
            · (intro w hSw; obtain ⟨z0, z1, s0, s1, s2, s3, s4, s5, s6, s7, s8, s9, s10, s11, s12, s13, s14, s15, s16, s17⟩ := hSw; (go_simp <;> with_reducible rfl))
            try simp only [Act.put, List.setIfInBounds_toArray, List.set_cons_zero, List.set_cons_succ]
            refine wpAnyH_take (i := 2) (oi := { dst := some 34, op := Op.load 3 (Operand.tmp 33), type := 3, pos := _, after := #[{ on := 1, ground := Ground.data }], guard := none }) (v := ?_) rfl (by kernel_rfl) (by kernel_rfl) (by kernel_rfl) (fun _ _ _ h => h) (Or.inl ⟨by rfl, ?_⟩) (by assumption) ?_
            rotate_left
            · (intro w hSw; obtain ⟨z0, z1, s0, s1, s2, s3, s4, s5, s6, s7, s8, s9, s10, s11, s12, s13, s14, s15, s16, s17⟩ := hSw; (go_simp <;> with_reducible rfl))
            try simp only [Act.put, List.setIfInBounds_toArray, List.set_cons_zero, List.set_cons_succ]
            refine wpAnyH_take (i := 3) (oi := { dst := some 35, op := Op.fieldAddr 30 (Operand.tmp 9) 1, type := 0, pos := _, after := #[], guard := none }) (v := ?_) rfl (by kernel_rfl) (by kernel_rfl) (by kernel_rfl) (fun _ _ _ h => h) (Or.inl ⟨by rfl, ?_⟩) (by assumption) ?_
            rotate_left
            · (intro w hSw; obtain ⟨z0, z1, s0, s1, s2, s3, s4, s5, s6, s7, s8, s9, s10, s11, s12, s13, s14, s15, s16, s17⟩ := hSw; (go_simp <;> with_reducible rfl))
            try simp only [Act.put, List.setIfInBounds_toArray, List.set_cons_zero, List.set_cons_succ]
            refine wpAnyH_take (i := 4) (oi := { dst := some 36, op := Op.load 3 (Operand.tmp 35), type := 3, pos := _, after := #[{ on := 3, ground := Ground.data }], guard := none }) (v := ?_) rfl (by kernel_rfl) (by kernel_rfl) (by kernel_rfl) (fun _ _ _ h => h) (Or.inl ⟨by rfl, ?_⟩) (by assumption) ?_
            rotate_left
            · (intro w hSw; obtain ⟨z0, z1, s0, s1, s2, s3, s4, s5, s6, s7, s8, s9, s10, s11, s12, s13, s14, s15, s16, s17⟩ := hSw; (go_simp <;> with_reducible rfl))
            try simp only [Act.put, List.setIfInBounds_toArray, List.set_cons_zero, List.set_cons_succ]
            refine wpAnyH_take (i := 5) (oi := { dst := some 37, op := Op.call { callee := Callee.builtin Builtin.min, args := #[Operand.tmp 34, Operand.tmp 36], argTypes := #[3, 3] }, type := 3, pos := _, after := #[{ on := 2, ground := Ground.data }, { on := 4, ground := Ground.data }], guard := none }) (v := ?_) rfl (by kernel_rfl) (by kernel_rfl) (by kernel_rfl) (fun _ _ _ h => h) (Or.inl ⟨by rfl, ?_⟩) (by assumption) ?_
            rotate_left
            · (intro w hSw; obtain ⟨z0, z1, s0, s1, s2, s3, s4, s5, s6, s7, s8, s9, s10, s11, s12, s13, s14, s15, s16, s17⟩ := hSw; (go_simp <;> with_reducible rfl))
            try simp only [Act.put, List.setIfInBounds_toArray, List.set_cons_zero, List.set_cons_succ]
            refine wpAnyH_take (i := 6) (oi := { dst := some 38, op := Op.binOp BinOp.lss 3 (Operand.tmp 32) (Operand.tmp 37) 3, type := 4, pos := _, after := #[{ on := 0, ground := Ground.data }, { on := 5, ground := Ground.data }], guard := none }) (v := ?_) rfl (by kernel_rfl) (by kernel_rfl) (by kernel_rfl) (fun _ _ _ h => h) (Or.inl ⟨by rfl, ?_⟩) (by assumption) ?_
            rotate_left
            · (intro w hSw; obtain ⟨z0, z1, s0, s1, s2, s3, s4, s5, s6, s7, s8, s9, s10, s11, s12, s13, s14, s15, s16, s17⟩ := hSw; (go_simp <;> with_reducible rfl))
            try simp only [Act.put, List.setIfInBounds_toArray, List.set_cons_zero, List.set_cons_succ]
            refine wpAnyH_take (i := 7) (oi := { dst := some 39, op := Op.move (Operand.tmp 38), type := 4, pos := _, after := #[{ on := 6, ground := Ground.data }], guard := none }) (v := ?_) rfl (by kernel_rfl) (by kernel_rfl) (by kernel_rfl) (fun _ _ _ h => h) (Or.inl ⟨by rfl, ?_⟩) (by assumption) ?_
            rotate_left
            · (intro w hSw; obtain ⟨z0, z1, s0, s1, s2, s3, s4, s5, s6, s7, s8, s9, s10, s11, s12, s13, s14, s15, s16, s17⟩ := hSw; (go_simp <;> with_reducible rfl))
            try simp only [Act.put, List.setIfInBounds_toArray, List.set_cons_zero, List.set_cons_succ]
            refine wpAnyH_take (i := 8) (oi := { dst := some 40, op := Op.move (Operand.tmp 2), type := 188, pos := _, after := #[{ on := 7, ground := Ground.guard }], guard := some (7, true) }) (v := undef) rfl (by kernel_rfl) (by kernel_rfl) (by kernel_rfl) (fun _ _ _ h => h) (Or.inr ⟨by rfl, rfl⟩) (by assumption) ?_
            try simp only [Act.put, List.setIfInBounds_toArray, List.set_cons_zero, List.set_cons_succ]
            refine wpAnyH_take (i := 9) (oi := { dst := some 41, op := Op.move (Operand.tmp 0), type := 31, pos := _, after := #[{ on := 7, ground := Ground.guard }], guard := some (7, true) }) (v := undef) rfl (by kernel_rfl) (by kernel_rfl) (by kernel_rfl) (fun _ _ _ h => h) (Or.inr ⟨by rfl, rfl⟩) (by assumption) ?_
            try simp only [Act.put, List.setIfInBounds_toArray, List.set_cons_zero, List.set_cons_succ]
            refine wpAnyH_take (i := 10) (oi := { dst := some 42, op := Op.indexAddr 31 (Operand.tmp 41) (Operand.const (Value.int IntKind.i64 0)), type := 0, pos := _, after := #[{ on := 9, ground := Ground.data }, { on := 7, ground := Ground.guard }], guard := some (7, true) }) (v := undef) rfl (by kernel_rfl) (by kernel_rfl) (by kernel_rfl) (fun _ _ _ h => h) (Or.inr ⟨by rfl, rfl⟩) (by assumption) ?_
            try simp only [Act.put, List.setIfInBounds_toArray, List.set_cons_zero, List.set_cons_succ]
            refine wpAnyH_take (i := 11) (oi := { dst := some 43, op := Op.load 79 (Operand.tmp 42), type := 79, pos := _, after := #[{ on := 10, ground := Ground.data }, { on := 7, ground := Ground.guard }], guard := some (7, true) }) (v := undef) rfl (by kernel_rfl) (by kernel_rfl) (by kernel_rfl) (fun _ _ _ h => h) (Or.inr ⟨by rfl, rfl⟩) (by assumption) ?_
            try simp only [Act.put, List.setIfInBounds_toArray, List.set_cons_zero, List.set_cons_succ]
            refine wpAnyH_take (i := 12) (oi := { dst := some 44, op := Op.move (Operand.tmp 1), type := 31, pos := _, after := #[{ on := 7, ground := Ground.guard }], guard := some (7, true) }) (v := undef) rfl (by kernel_rfl) (by kernel_rfl) (by kernel_rfl) (fun _ _ _ h => h) (Or.inr ⟨by rfl, rfl⟩) (by assumption) ?_
            try simp only [Act.put, List.setIfInBounds_toArray, List.set_cons_zero, List.set_cons_succ]
            refine wpAnyH_take (i := 13) (oi := { dst := some 45, op := Op.indexAddr 31 (Operand.tmp 44) (Operand.const (Value.int IntKind.i64 0)), type := 0, pos := _, after := #[{ on := 12, ground := Ground.data }, { on := 7, ground := Ground.guard }], guard := some (7, true) }) (v := undef) rfl (by kernel_rfl) (by kernel_rfl) (by kernel_rfl) (fun _ _ _ h => h) (Or.inr ⟨by rfl, rfl⟩) (by assumption) ?_
            try simp only [Act.put, List.setIfInBounds_toArray, List.set_cons_zero, List.set_cons_succ]
            refine wpAnyH_take (i := 14) (oi := { dst := some 46, op := Op.load 79 (Operand.tmp 45), type := 79, pos := _, after := #[{ on := 13, ground := Ground.data }, { on := 7, ground := Ground.guard }], guard := some (7, true) }) (v := undef) rfl (by kernel_rfl) (by kernel_rfl) (by kernel_rfl) (fun _ _ _ h => h) (Or.inr ⟨by rfl, rfl⟩) (by assumption) ?_
            try simp only [Act.put, List.setIfInBounds_toArray, List.set_cons_zero, List.set_cons_succ]
            refine wpAnyH_take (i := 15) (oi := { dst := some 47, op := Op.call { callee := Callee.value (Operand.tmp 40), args := #[Operand.tmp 43, Operand.tmp 46], argTypes := #[79, 79] }, type := 4, pos := _, after := #[{ on := 8, ground := Ground.data }, { on := 11, ground := Ground.data }, { on := 14, ground := Ground.data }, { on := 7, ground := Ground.chain }, { on := 7, ground := Ground.guard }], guard := some (7, true) }) (v := undef) rfl (by kernel_rfl) (by kernel_rfl) (by kernel_rfl) (fun _ _ _ h => h) (Or.inr ⟨by rfl, rfl⟩) (by assumption) ?_
            try simp only [Act.put, List.setIfInBounds_toArray, List.set_cons_zero, List.set_cons_succ]
            refine wpAnyH_take (i := 16) (oi := { dst := some 48, op := Op.pick (Operand.tmp 39) (Operand.tmp 47) (Operand.const (Value.bool false)), type := 4, pos := _, after := #[{ on := 7, ground := Ground.data }, { on := 15, ground := Ground.data }], guard := none }) (v := ?_) rfl (by kernel_rfl) (by kernel_rfl) (by kernel_rfl) (fun _ _ _ h => h) (Or.inl ⟨by rfl, ?_⟩) (by assumption) ?_
            rotate_left
            · (intro w hSw; obtain ⟨z0, z1, s0, s1, s2, s3, s4, s5, s6, s7, s8, s9, s10, s11, s12, s13, s14, s15, s16, s17⟩ := hSw; (go_simp <;> with_reducible rfl))
            try simp only [Act.put, List.setIfInBounds_toArray, List.set_cons_zero, List.set_cons_succ]
            refine wpAnyH_done (by kernel_rfl) ?_ _
            generalize wc.drew = w4 at hA hBB hG2 hHeld ⊢
            have d8 : w4.cell? ⟨g8, 1, none⟩ = some (.int .i64 (toL p)) := hA.cell 1
            have d9 : w4.cell? ⟨g9, 1, none⟩ = some (.int .i64 (toL q)) := hBB.cell 1
            have hck : ckP al p q = false := by simp [ckP, hlt]
            clear hlt
            have HD2 : Hid (meO al la lb = if toL p ≤ toL q then meO al x (q :: y) else meO al (p :: x) y) := Lib.hid (by rw [HD.out, if_neg (by simp [hck])])
            clear HD hck
            by_cases hle : toL p ≤ toL q
            · have HF : Hid (meO al la lb = meO al x (q :: y)) := Lib.hid (by rw [HD2.out, if_pos hle])
              have HT := Lib.hid (RdR.tail lgC_sz (by have := HX.out; exact this))
              clear HD2
              have h1n : (1 : Int) ≤ (n1 : Int) := by omega
              by_cases hcx : cx = 1
              · go_wp2_with fail
                go_roundg (x.length + (y.length + 1))
                case rel => exact ⟨x, q :: y, by simp, by omega, by simp; omega, HF.out, by have := HT.out; rw [if_pos hcx, hcx] at this; have e := HN1.out; subst e; exact this, by have e := HN2.out; subst e; exact HY.out, HGW.out.trans hG2⟩
                case measure => first | (simp; done) | (simp; omega)
              · go_wp2_with fail
                go_roundg (x.length + (y.length + 1))
                case rel => exact ⟨x, q :: y, by simp, by omega, by simp; omega, HF.out, by have := HT.out; rw [if_neg hcx] at this; have e := HN1.out; subst e; exact this, by have e := HN2.out; subst e; exact HY.out, HGW.out.trans hG2⟩
                case measure => first | (simp; done) | (simp; omega)
            · have HF : Hid (meO al la lb = meO al (p :: x) y) := Lib.hid (by rw [HD2.out, if_neg hle])
              have HT := Lib.hid (RdR.tail lgC_sz (by have := HY.out; exact this))
              clear HD2
              have h1n : (1 : Int) ≤ (n2 : Int) := by omega
              by_cases hcy2 : cy = 1
              · go_wp2_with fail
                go_roundg ((x.length + 1) + y.length)
                case rel => exact ⟨p :: x, y, by simp, by simp; omega, by omega, HF.out, by have e := HN1.out; subst e; exact HX.out, by have := HT.out; rw [if_pos hcy2, hcy2] at this; have e := HN2.out; subst e; exact this, HGW.out.trans hG2⟩
                case measure => first | (simp; done) | (simp; omega)
              · go_wp2_with fail
                go_roundg ((x.length + 1) + y.length)
                case rel => exact ⟨p :: x, y, by simp, by simp; omega, by omega, HF.out, by have e := HN1.out; subst e; exact HX.out, by have := HT.out; rw [if_neg hcy2] at this; have e := HN2.out; subst e; exact this, HGW.out.trans hG2⟩
                case measure => first | (simp; done) | (simp; omega)
end Go.Proofs.YtdcofbciebkfkaaDoor

/- Hires: slices.Clone of legs, the last leg, whether it is open; a change to a copy of an open hire. -/
namespace Go.Proofs.YtdcofbciebkfkaaDoor
open Go.RowKit

/-- Nothing that was there has turned, but the blocks of S. -/
structure GS (S : Nat → Prop) (a b : World) : Prop where
  os : b.os = a.os
  tape : b.tape = a.tape
  output : b.output = a.output
  size : a.heap.size ≤ b.heap.size
  block : ∀ k, k < a.heap.size → ¬ S k → b.heap[k]? = a.heap[k]?
theorem GS.of_G {S : Nat → Prop} {a b : World} (h : G a b none) : GS S a b := ⟨h.os, h.tape, h.output, h.size, fun k hk _ => h.block k hk (by simp)⟩
theorem GS.of_Gs {S : Nat → Prop} {a b : World} {s : Nat} (h : G a b (some s)) (hs : S s) : GS S a b := ⟨h.os, h.tape, h.output, h.size, fun k hk hS => h.block k hk (fun e => by cases e; exact hS hs)⟩
theorem GS.trans {S : Nat → Prop} {a b c : World} (h : GS S a b) (k : GS S b c) : GS S a c :=
  ⟨k.os.trans h.os, k.tape.trans h.tape, k.output.trans h.output, Nat.le_trans h.size k.size, fun j hj hS => (k.block j (Nat.lt_of_lt_of_le hj h.size) hS).trans (h.block j hj hS)⟩
theorem GS.mono {S T : Nat → Prop} {a b : World} (h : GS S a b) (hST : ∀ k, k < a.heap.size → S k → T k) : GS T a b := ⟨h.os, h.tape, h.output, h.size, fun k hk hT => h.block k hk (fun hS => hT (hST k hk hS))⟩
/-- The blocks that were written were made since. -/
theorem GS.own {S : Nat → Prop} {A a b : World} (hG : G A a none) (h : GS S a b) (hS : ∀ k, S k → A.heap.size ≤ k) : G A b none :=
  ⟨h.os.trans hG.os, h.tape.trans hG.tape, h.output.trans hG.output, Nat.le_trans hG.size h.size, fun k hk _ => (h.block k (Nat.lt_of_lt_of_le hk hG.size) (fun hs => by have := hS k hs; omega)).trans (hG.block k hk (by simp))⟩
theorem Bk.gs {S : Nat → Prop} {w w' : World} {g : Nat} {T : TypeId} {cs : Array Value} (h : Bk w g T cs) (hg : GS S w w') (hs : ¬ S g) : Bk w' g T cs := (hg.block g h.lt hs).trans h

theorem lg_oneL (r : Lg) : ∀ u ∈ (lgC r).toList, u.oneCell' = true := by
  intro u hu
  simp [lgC] at hu
  rcases hu with rfl | rfl | rfl | rfl | rfl | rfl | rfl | rfl | rfl <;> rfl
theorem lg_rowOk : RowOk Tryd.prog 79 31 9 96 (.agg (lgC (⟨#[]⟩, (0, ⟨#[]⟩, 0, 0), (0, ⟨#[]⟩, 0, 0)))) lgC := ⟨by kernel_rfl, Tryd.underlying31, lg_oneL, lgC_sz, rfl, by omega, by omega⟩
abbrev OwnLg (w : World) (base : Nat) (v : Value) (l : List Lg) : Prop := OwnX 79 9 lgC w base v l
theorem rowL_one {α : Type} {c : α → Array Value} (h : ∀ r, ∀ u ∈ (c r).toList, u.oneCell' = true) (l : List α) : ∀ u ∈ rowL c l, u.oneCell' = true := by
  intro u hu
  obtain ⟨x, _, hx⟩ := List.mem_flatMap.1 hu
  exact h x u hx

set_option maxRecDepth 100000 in
set_option maxHeartbeats 2000000 in
theorem cloneLg_c (v : Value) (l : List Lg) (w : World) (hr : RdR w 9 lgC v l) (hn : l.length ≤ 1000) :
    Calls Tryd.prog 80 #[v] w fun e w' => ∃ v', e = .returned v' ∧ OwnLg w' w.heap.size v' l ∧ G w w' none := by
  have q22 : ∀ (w : World) (a : Option Addr) (n c n' c' : Nat), (binOp .eql 31 (.slice a n c) (.slice none n' c')).run Tryd.prog w = .ok (.bool a.isNone) w := fun w a n c n' c' => Lib.run_eql_slice_nil w _ _ a n c n' c' Tryd.underlying31
  obtain ⟨a, cap, rfl, h1, h2, h3, h4, h5⟩ := hr
  cases a with
  | none =>
    obtain ⟨hz, hc⟩ := h4 rfl
    subst hc
    have hl : l = [] := List.eq_nil_of_length_eq_zero hz
    subst hl
    clear h1 h2 h3 h4 h5 hn
    go_enter Tryd.func80, Tryd.ntmps80
    go_wp2_with fail
    go_ret
    exact ⟨_, rfl, World.ownsRow_nil _ _ _ _, G.refl _ _⟩
  | some ad =>
    obtain ⟨b, o, s⟩ := ad
    obtain ⟨e1, e2, e3⟩ := h5 _ rfl
    dsimp only at e1 e2 e3
    subst e1
    obtain ⟨i0, hi, hz0, hz1, hz2⟩ := info_parts lg_rowOk.row
    have E3 := Lib.hid e3
    clear e3 h4 h5
    go_enter Tryd.func80, Tryd.ntmps80
    go_wp2_with (at_builtin; refine wpList_append_own _ rfl _ _ 31 rfl w.heap.size 79 i0 (.agg (lgC (⟨#[]⟩, (0, ⟨#[]⟩, 0, 0), (0, ⟨#[]⟩, 0, 0)))) 9 96 Tryd.underlying31 hi hz0 hz1 hz2 rfl (by omega) _ _ _ rfl (World.ownsRow_made w #[] 0 (Nat.le_refl _) (Nat.zero_le _) (by simp)) ⟨b, o, none⟩ l.length cap (rowL lgC l) rfl ?qc1 ?qc2 ?qc3 ?qc4 ?qc5 ?qc6 ?_)
    case qc1 => exact h3
    case qc2 =>
      intro j u hj
      rw [add_at]
      exact Lib.cell?_alloc_some _ (E3.out j u hj)
    case qc3 => exact rowL_one lg_oneL l
    case qc4 => unfold maxLen; omega
    case qc5 => omega
    case qc6 => simp
    intro v' w1 hown hgrow hnil
    go_wp2_with fail
    go_ret
    refine ⟨v', rfl, by simpa using hown, ?_⟩
    exact ((G.refl w none).alloc _).other hgrow (fun k hk => by simp [Value.ownBlock] at hk; omega)
/-- Whether the last leg is still out. -/
def ioB (l : List Lg) : Bool := match l[l.length - 1]? with
  | some x => x.2.2.1 == -1
  | none => false
theorem ioB_pos {l : List Lg} (h : ioB l = true) : 0 < l.length := by
  cases l with
  | nil => cases h
  | cons a r => simp
set_option maxRecDepth 100000 in
set_option maxHeartbeats 1000000 in
theorem lastOf_c (h : Hh) (bb bo n cap : Nat) (w : World) (hn : 0 < n) (hn2 : n ≤ 1000) :
    Calls Tryd.prog 93 #[.agg (hiC h (.slice (some ⟨bb, bo, none⟩) n cap))] w fun e w' => e = .returned (.pointer (some ⟨bb, bo + (n - 1) * 9, none⟩)) ∧ G w w' none := by
  have hG := (G.refl w none).alloc (.cells (hiC h (.slice (some ⟨bb, bo, none⟩) n cap)) 33)
  obtain ⟨m, rfl⟩ : ∃ m, n = m + 1 := ⟨n - 1, by omega⟩
  have e1 : m + 1 - 1 = m := by omega
  have hw : IntKind.i64.wrap (((m + 1 : Nat) : Int) - 1) = (m : Int) := by rw [IntKind.wrap_i64]; omega
  have hlt : m < m + 1 := by omega
  rw [e1]
  simp only [hiC] at hG ⊢
  go_enter Tryd.func93, Tryd.ntmps93
  go_wp2_with fail
  go_ret
  exact ⟨rfl, hG⟩
set_option maxRecDepth 100000 in
set_option maxHeartbeats 1000000 in
theorem isOpen_h (h : Hh) (v : Value) (l : List Lg) (w : World) (hr : RdR w 9 lgC v l) (h0 : 0 < l.length) (hn : l.length ≤ 1000) :
    Calls Tryd.prog 106 #[.agg (hiC h v)] w fun e w' => e = .returned (.bool (ioB l)) ∧ G w w' none := by
  obtain ⟨a, cap, rfl, hcap, hm⟩ := RdR.form hr
  obtain ⟨p, hp⟩ : ∃ p, l[l.length - 1]? = some p := ⟨_, List.getElem?_eq_getElem (by omega)⟩
  obtain ⟨bb, bo, rfl, hbb, -⟩ := RdR.elem lgC_sz hr (G.refl w none) hp
  have H : Hid (ioB l = (p.2.2.1 == -1)) := Lib.hid (by unfold ioB; rw [hp])
  have hH := Bk.new w 33 (hiC h (.slice (some ⟨bb, bo, none⟩) l.length cap))
  have hG := (G.refl w none).alloc (.cells (hiC h (.slice (some ⟨bb, bo, none⟩) l.length cap)) 33)
  have HR := Lib.hid (hr.quiet hG)
  have HP := Lib.hid hp
  clear hr hp
  simp only [hiC] at hH hG HR ⊢
  go_enter Tryd.func106, Tryd.ntmps106
  go_upto_region 1 with fail
  generalize w.alloc (.cells #[.string h.1, .string h.2.1, .int .i64 h.2.2.1, .int .i64 h.2.2.2, .slice (some ⟨bb, bo, none⟩) l.length cap] 33) = w2 at hG hH HR ⊢
  go_wp2_with (refine wpList_load_row rfl 33 _ rfl w.heap.size rfl 33 #[.string h.1, .string h.2.1, .int .i64 h.2.2.1, .int .i64 h.2.2.2, .slice (some ⟨bb, bo, none⟩) l.length cap] (0, 0) _ hH Tryd.underlying33 rfl (hi_info h _) ?_)
  refine (lastOf_c h bb bo l.length cap _ h0 hn).mono ?_; rintro e w3 ⟨rfl, hG3⟩
  have HROW := Lib.hid (lgRow HR.out hG3 HP.out)
  go_wp2_with (refine wpList_load_at rfl 79 _ rfl ⟨bb, bo + (l.length - 1) * 9, none⟩ rfl (lgC p) _ HROW.out Tryd.underlying79 rfl (lg_info p) ?_)
  refine (isOut_c p _).mono ?_; rintro e w4 ⟨rfl, hG4⟩
  go_wp2_with fail
  go_ret
  exact ⟨ret_bool H.out.symm, (hG.trans hG3).trans hG4⟩
set_option maxRecDepth 100000 in
set_option maxHeartbeats 1000000 in
theorem isOpenR_c (h : Hh) (v : Value) (l : List Lg) (w : World) (hr : RdR w 9 lgC v l) (hn : l.length ≤ 1000) :
    Calls Tryd.prog 30 #[.agg (hiC h v)] w fun e w' => e = .returned (.bool (ioB l)) ∧ G w w' none := by
  obtain ⟨a, cap, rfl, hcap, hm⟩ := RdR.form hr
  have hH := Bk.new w 33 (hiC h (.slice a l.length cap))
  have hG := (G.refl w none).alloc (.cells (hiC h (.slice a l.length cap)) 33)
  have HR := Lib.hid (hr.quiet hG)
  clear hr
  simp only [hiC] at hH hG HR ⊢
  go_enter Tryd.func30, Tryd.ntmps30
  go_upto_region 1 with fail
  generalize w.alloc (.cells #[.string h.1, .string h.2.1, .int .i64 h.2.2.1, .int .i64 h.2.2.2, .slice a l.length cap] 33) = w2 at hG hH HR ⊢
  have c4 : w2.cell? ⟨w.heap.size, 4, none⟩ = some (.slice a l.length cap) := hH.cell 4
  by_cases h0 : 0 < l.length
  · obtain ⟨p, hp⟩ : ∃ p, l[l.length - 1]? = some p := ⟨_, List.getElem?_eq_getElem (by omega)⟩
    obtain ⟨bb, bo, rfl, hbb, -⟩ := RdR.elem lgC_sz HR.out (G.refl w2 none) hp
    have H : Hid (ioB l = (p.2.2.1 == -1)) := Lib.hid (by unfold ioB; rw [hp])
    have d5 := RdR.cell lgC_sz HR.out (G.refl w2 none) hp 5 (.int .i64 p.2.2.1) rfl
    have h0i : (0 : Int) < (l.length : Int) := by omega
    have hw : IntKind.i64.wrap ((l.length : Int) - 1) = ((l.length - 1 : Nat) : Int) := by rw [IntKind.wrap_i64]; omega
    have hlt : l.length - 1 < l.length := by omega
    generalize l.length - 1 = m at hw hlt d5
    clear hp
    go_wp2_with fail
    go_ret
    exact ⟨ret_bool H.out.symm, hG⟩
  · have hl : l = [] := List.eq_nil_of_length_eq_zero (by omega)
    subst hl
    go_wp2_with fail
    go_ret
    exact ⟨rfl, hG⟩
end Go.Proofs.YtdcofbciebkfkaaDoor

/- Facts that stand while only some blocks are written. No program of its own. -/
namespace Go.Proofs.YtdcofbciebkfkaaDoor
open Go.RowKit

theorem Rd.gs {S : Nat → Prop} {w w' : World} {z : Nat} {v : Value} {n : Nat} {cs : List Value} (h : Rd w z v n cs) (hg : GS S w w') (hs : ∀ k, v.ownBlock = some k → ¬ S k) : Rd w' z v n cs :=
  h.of_eq fun b hb hlt => ⟨Nat.lt_of_lt_of_le hlt hg.size, hg.block b hlt (hs b hb)⟩
/-- A fact that stands while only blocks of S are written. -/
def KS (S : Nat → Prop) (w : World) (P : World → Prop) : Prop := ∀ w', GS S w w' → P w'
theorem GS.refl (S : Nat → Prop) (w : World) : GS S w w := GS.of_G (G.refl _ _)
theorem KS.now {S : Nat → Prop} {w : World} {P : World → Prop} (h : KS S w P) : P w := h w (GS.refl _ _)
theorem KS.step {S : Nat → Prop} {w w' : World} {P : World → Prop} (h : KS S w P) (hG : GS S w w') : KS S w' P := fun _ hg => h _ (hG.trans hg)
theorem KS.and {S : Nat → Prop} {w : World} {P Q : World → Prop} (h : KS S w P) (k : KS S w Q) : KS S w (fun w => P w ∧ Q w) := fun w' hg => ⟨h w' hg, k w' hg⟩
theorem KS.bk {S : Nat → Prop} {w : World} {g : Nat} {T : TypeId} {cs : Array Value} (h : Bk w g T cs) (hg : ¬ S g) : KS S w (fun w => Bk w g T cs) := fun _ hG => h.gs hG hg
theorem KS.rd {S : Nat → Prop} {w : World} {z n : Nat} {v : Value} {cs : List Value} (h : Rd w z v n cs) (hb : ∀ k, v.ownBlock = some k → ¬ S k) : KS S w (fun w => Rd w z v n cs) := fun _ hG => h.gs hG hb
/-- The stream's block, and what was made since. -/
def Snew (s N : Nat) (k : Nat) : Prop := k = s ∨ N ≤ k
theorem GS.stream {s N : Nat} {w w' : World} (h : G w w' (some s)) : GS (Snew s N) w w' := GS.of_Gs h (.inl rfl)
theorem GS.row {s N : Nat} {w : World} {g : Nat} (hg : N ≤ g) (cs : Array Value) : GS (Snew s N) w (w.setRow g cs) := GS.of_Gs ((G.refl w (some g)).setRow (.inr rfl) cs) (.inr hg)
theorem GS.cell {s N : Nat} {w : World} {p : Addr} (hg : N ≤ p.block) (u : Value) : GS (Snew s N) w (w.setCell p u) := GS.of_Gs ((G.refl w (some p.block)).setCell (.inr rfl) u) (.inr hg)
/-- The stream alone was there, of what was written. -/
theorem GS.toG {s N : Nat} {A a b : World} (hA : G A a (some s)) (h : GS (Snew s N) a b) (hN : A.heap.size ≤ N) : G A b (some s) :=
  ⟨h.os.trans hA.os, h.tape.trans hA.tape, h.output.trans hA.output, Nat.le_trans hA.size h.size, fun k hk hne => (h.block k (Nat.lt_of_lt_of_le hk hA.size) (fun e => by
    rcases e with e | e
    · exact hne (by rw [e])
    · omega)).trans (hA.block k hk hne)⟩
theorem SB.gs {s N K : Nat} {w w' : World} (h : SB w s K) (hg : G w w' none) : SB w' s K := h.quiet hg
end Go.Proofs.YtdcofbciebkfkaaDoor

/- Clashes: what excludes that two hires can both be (hire.clashesOf). -/
namespace Go.Proofs.YtdcofbciebkfkaaDoor
open Go.RowKit

/-- A clash: two keys, a kind, a moment. -/
abbrev Ks := ByteArray × ByteArray × Int × Int
def ksC (x : Ks) : Array Value := #[.string x.1, .string x.2.1, .int .i64 x.2.2.1, .int .i64 x.2.2.2]
theorem ksC_sz (x : Ks) : (ksC x).size = 4 := rfl
theorem ks_oneL (r : Ks) : ∀ u ∈ (ksC r).toList, u.oneCell' = true := by
  intro u hu
  simp [ksC] at hu
  rcases hu with rfl | rfl | rfl | rfl <;> rfl
theorem ks_rowOk : RowOk Tryd.prog 75 70 4 48 (.agg (ksC (⟨#[]⟩, ⟨#[]⟩, 0, 0))) ksC := ⟨by kernel_rfl, Tryd.underlying70, ks_oneL, ksC_sz, rfl, by omega, by omega⟩
abbrev OwnKs (w : World) (base : Nat) (v : Value) (l : List Ks) : Prop := OwnX 75 4 ksC w base v l
def ckL (a b : ByteArray) (kind : Int) (o : Option Int) : List Ks := match o with
  | none => []
  | some m => [(a, b, kind, m)]
theorem ckL_len (a b : ByteArray) (kind : Int) (o : Option Int) : (ckL a b kind o).length ≤ 1 := by cases o <;> simp [ckL]
def alV (p q : Lg) : Bool := p.1.toList == q.1.toList
def alD (x y : Hh) (_ _ : Lg) : Bool := x.2.1.toList == y.2.1.toList
set_option maxRecDepth 100000 in
theorem alV_c (p q : Lg) (w : World) : Calls Tryd.prog 151 #[.agg #[.string p.1, .int .i64 p.2.1.1, .string p.2.1.2.1, .int .i64 p.2.1.2.2.1, .int .i64 p.2.1.2.2.2, .int .i64 p.2.2.1, .string p.2.2.2.1, .int .i64 p.2.2.2.2.1, .int .i64 p.2.2.2.2.2], .agg #[.string q.1, .int .i64 q.2.1.1, .string q.2.1.2.1, .int .i64 q.2.1.2.2.1, .int .i64 q.2.1.2.2.2, .int .i64 q.2.2.1, .string q.2.2.2.1, .int .i64 q.2.2.2.2.1, .int .i64 q.2.2.2.2.2]] w fun e w' => e = .returned (.bool (alV p q)) ∧ G w w' none := by
  have hc := ((Bk.new w 79 #[.string p.1, .int .i64 p.2.1.1, .string p.2.1.2.1, .int .i64 p.2.1.2.2.1, .int .i64 p.2.1.2.2.2, .int .i64 p.2.2.1, .string p.2.2.2.1, .int .i64 p.2.2.2.2.1, .int .i64 p.2.2.2.2.2]).alloc (.cells #[.string q.1, .int .i64 q.2.1.1, .string q.2.1.2.1, .int .i64 q.2.1.2.2.1, .int .i64 q.2.1.2.2.2, .int .i64 q.2.2.1, .string q.2.2.2.1, .int .i64 q.2.2.2.2.1, .int .i64 q.2.2.2.2.2] 79)).cell 0
  have hc2 := (Bk.newAt (w := w.alloc (.cells #[.string p.1, .int .i64 p.2.1.1, .string p.2.1.2.1, .int .i64 p.2.1.2.2.1, .int .i64 p.2.1.2.2.2, .int .i64 p.2.2.1, .string p.2.2.2.1, .int .i64 p.2.2.2.2.1, .int .i64 p.2.2.2.2.2] 79)) (b := w.heap.size + 1) (by simp) 79 #[.string q.1, .int .i64 q.2.1.1, .string q.2.1.2.1, .int .i64 q.2.1.2.2.1, .int .i64 q.2.1.2.2.2, .int .i64 q.2.2.1, .string q.2.2.2.1, .int .i64 q.2.2.2.2.1, .int .i64 q.2.2.2.2.2]).cell 0
  rw [show (#[.string p.1, .int .i64 p.2.1.1, .string p.2.1.2.1, .int .i64 p.2.1.2.2.1, .int .i64 p.2.1.2.2.2, .int .i64 p.2.2.1, .string p.2.2.2.1, .int .i64 p.2.2.2.2.1, .int .i64 p.2.2.2.2.2] : Array Value)[0]? = some (.string p.1) from rfl] at hc
  rw [show (#[.string q.1, .int .i64 q.2.1.1, .string q.2.1.2.1, .int .i64 q.2.1.2.2.1, .int .i64 q.2.1.2.2.2, .int .i64 q.2.2.1, .string q.2.2.2.1, .int .i64 q.2.2.2.2.1, .int .i64 q.2.2.2.2.2] : Array Value)[0]? = some (.string q.1) from rfl] at hc2
  go_enter Tryd.func151, Tryd.ntmps151
  go_wp2_with fail
  go_ret
  exact ⟨rfl, ((G.refl _ _).alloc _).alloc _⟩
set_option maxRecDepth 100000 in
theorem alD_c (x y : Hh) (va vb : Value) (ga gb : Nat) (p q : Lg) (w : World) (hA : Bk w ga 33 (hiC x va)) (hB : Bk w gb 33 (hiC y vb)) : Calls Tryd.prog 152 #[.agg #[.string p.1, .int .i64 p.2.1.1, .string p.2.1.2.1, .int .i64 p.2.1.2.2.1, .int .i64 p.2.1.2.2.2, .int .i64 p.2.2.1, .string p.2.2.2.1, .int .i64 p.2.2.2.2.1, .int .i64 p.2.2.2.2.2], .agg #[.string q.1, .int .i64 q.2.1.1, .string q.2.1.2.1, .int .i64 q.2.1.2.2.1, .int .i64 q.2.1.2.2.2, .int .i64 q.2.2.1, .string q.2.2.2.1, .int .i64 q.2.2.2.2.1, .int .i64 q.2.2.2.2.2], .pointer (some ⟨ga, 0, none⟩), .pointer (some ⟨gb, 0, none⟩)] w fun e w' => e = .returned (.bool (alD x y p q)) ∧ G w w' none := by
  have hc := ((hA.alloc (.cells #[.string p.1, .int .i64 p.2.1.1, .string p.2.1.2.1, .int .i64 p.2.1.2.2.1, .int .i64 p.2.1.2.2.2, .int .i64 p.2.2.1, .string p.2.2.2.1, .int .i64 p.2.2.2.2.1, .int .i64 p.2.2.2.2.2] 79)).alloc (.cells #[.string q.1, .int .i64 q.2.1.1, .string q.2.1.2.1, .int .i64 q.2.1.2.2.1, .int .i64 q.2.1.2.2.2, .int .i64 q.2.2.1, .string q.2.2.2.1, .int .i64 q.2.2.2.2.1, .int .i64 q.2.2.2.2.2] 79)).cell 1
  have hc2 := ((hB.alloc (.cells #[.string p.1, .int .i64 p.2.1.1, .string p.2.1.2.1, .int .i64 p.2.1.2.2.1, .int .i64 p.2.1.2.2.2, .int .i64 p.2.2.1, .string p.2.2.2.1, .int .i64 p.2.2.2.2.1, .int .i64 p.2.2.2.2.2] 79)).alloc (.cells #[.string q.1, .int .i64 q.2.1.1, .string q.2.1.2.1, .int .i64 q.2.1.2.2.1, .int .i64 q.2.1.2.2.2, .int .i64 q.2.2.1, .string q.2.2.2.1, .int .i64 q.2.2.2.2.1, .int .i64 q.2.2.2.2.2] 79)).cell 1
  rw [show (hiC x va)[1]? = some (.string x.2.1) from rfl] at hc
  rw [show (hiC y vb)[1]? = some (.string y.2.1) from rfl] at hc2
  go_enter Tryd.func152, Tryd.ntmps152
  go_wp2_with fail
  go_ret
  exact ⟨rfl, ((G.refl _ _).alloc _).alloc _⟩
theorem GS.grow {S : Nat → Prop} {w w' : World} {o : Option Nat} (h : w.grownBy w' o) (ho : ∀ r, o = some r → S r) : GS S w w' := by
  cases o with
  | none => exact GS.of_G h
  | some r => exact GS.of_Gs h (ho r rfl)
set_option maxRecDepth 100000 in
set_option maxHeartbeats 4000000 in
theorem add_c (F : FuncId) (caps : Array Value) (al : Lg → Lg → Bool) (kind : Int) (x y : Hh) (va vb v : Value) (la lb : List Lg) (L : List Ks) (ga gb gc N base : Nat) (w : World) (hcf : ∀ (args : Array Value) (w : World), (callFunc F args).run Tryd.prog w = .ok (.enter F args) w)
    (hal : ∀ (p q : Lg) (w' : World), G w w' none → Calls Tryd.prog F (#[.agg #[.string p.1, .int .i64 p.2.1.1, .string p.2.1.2.1, .int .i64 p.2.1.2.2.1, .int .i64 p.2.1.2.2.2, .int .i64 p.2.2.1, .string p.2.2.2.1, .int .i64 p.2.2.2.2.1, .int .i64 p.2.2.2.2.2], .agg #[.string q.1, .int .i64 q.2.1.1, .string q.2.1.2.1, .int .i64 q.2.1.2.2.1, .int .i64 q.2.1.2.2.2, .int .i64 q.2.2.1, .string q.2.2.2.1, .int .i64 q.2.2.2.2.1, .int .i64 q.2.2.2.2.2]] ++ caps) w' fun e w'' => e = .returned (.bool (al p q)) ∧ G w' w'' none)
    (hA : Bk w ga 33 (hiC x va)) (hB : Bk w gb 33 (hiC y vb)) (hra : RdR w 9 lgC va la) (hrb : RdR w 9 lgC vb lb) (hna : la.length ≤ 1000) (hnb : lb.length ≤ 1000)
    (hC : Bk w gc 70 #[v]) (hown : OwnKs w base v L) (hL : L.length ≤ 100) (hN : N ≤ gc) (hb : gc < base) (hbw : base ≤ w.heap.size) :
    Calls Tryd.prog 149 #[.int .i64 kind, .func (.func F) #[] caps, .pointer (some ⟨ga, 0, none⟩), .pointer (some ⟨gb, 0, none⟩), .pointer (some ⟨gc, 0, none⟩)] w
      fun e w' => e = .returned (.tuple #[]) ∧ ∃ v', Bk w' gc 70 #[v'] ∧ OwnKs w' base v' (L ++ ckL x.1 y.1 kind (meO al la lb)) ∧ GS (fun k => k = gc ∨ base ≤ k) w w' := by
  obtain ⟨aa, ca, rfl, -, -⟩ := RdR.form hra
  obtain ⟨ab, cb, rfl, -, -⟩ := RdR.form hrb
  have CM := Lib.hid (meeting_c F caps al _ _ la lb w hcf hal hra hrb hna hnb)
  have a4 : w.cell? ⟨ga, 4, none⟩ = some (.slice aa la.length ca) := hA.cell 4
  have b4 : w.cell? ⟨gb, 4, none⟩ = some (.slice ab lb.length cb) := hB.cell 4
  clear hal hra hrb
  go_enter Tryd.func149, Tryd.ntmps149
  go_wp2_with fail
  refine CM.out.mono ?_; rintro e w1 ⟨rfl, hG⟩
  clear CM a4 b4
  have a0 : w1.cell? ⟨ga, 0, none⟩ = some (.string x.1) := (hA.quiet hG).cell 0
  have b0 : w1.cell? ⟨gb, 0, none⟩ = some (.string y.1) := (hB.quiet hG).cell 0
  have hC1 := hC.quiet hG
  have c0 : w1.cell? ⟨gc, 0, none⟩ = some v := hC1.cell 0
  have hown1 := OwnX.quiet hown hG
  have hsz := hG.size
  clear hA hB hC hown
  obtain ⟨O, hO⟩ : ∃ O, meO al la lb = O := ⟨_, rfl⟩
  rw [hO]
  have HO := Lib.hid hO
  clear hO
  cases O with
  | none =>
    go_wp2_with fail
    refine bodyPost_end (results_none rfl _ _ _) rfl ?_
    exact ⟨rfl, v, hC1, by rw [HO.out, show ckL x.1 y.1 kind none = [] from rfl, List.append_nil]; exact hown1, GS.of_G hG⟩
  | some m =>
    simp only [Option.getD_some, Option.isSome_some]
    have hownA := OwnX.alloc hown1 (.cells #[.string x.1, .string y.1, .int .i64 kind, .int .i64 m] 75)
    have hCA := hC1.alloc (.cells #[.string x.1, .string y.1, .int .i64 kind, .int .i64 m] 75)
    have hGA := GS.of_G (S := fun k => k = gc ∨ base ≤ k) ((hG).alloc (.cells #[.string x.1, .string y.1, .int .i64 kind, .int .i64 m] 75))
    have hob := OwnX.low hown1
    go_wp2_with (at_builtin; refine wpList_plain rfl fun K' hK' => wp_append_x ks_rowOk _ _ rfl base v L rfl hownA w1.heap.size (x.1, y.1, kind, m) rfl (Bk.new w1 _ _) (by omega) (by simp; omega) ?_; intro v8 w8 hown8 hgrow; obtain ⟨a8, c8, hv, -, -⟩ := RdR.form (c := ksC) (Rd.of_owns hown8); obtain ⟨nn, hnn⟩ : ∃ nn, (L ++ [(x.1, y.1, kind, m)]).length = nn := ⟨_, rfl⟩; rw [hnn] at hv; clear hnn; subst hv; have hC8 := Bk.grown hCA hgrow (OwnX.ne hownA (.inl hb)); have f8 := hC8.free 0; have y8 : w8.cell? ⟨gc, 0, none⟩ = some v := hC8.cell 0; refine hK' _ _ ?_)
    refine bodyPost_end (results_none rfl _ _ _) rfl ?_
    exact ⟨rfl, _, hC8.set 0 _, by rw [HO.out]; exact OwnX.far (p := ⟨gc, 0, none⟩) hown8 (OwnX.ne hown8 (.inl hb)) _, (hGA.trans (GS.grow hgrow (fun r e => .inr (hob r e)))).trans (GS.of_Gs ((G.refl w8 (some gc)).setCell (p := ⟨gc, 0, none⟩) (.inr rfl) _) (.inl rfl))⟩
/-- What excludes that two hires can both be. -/
def clOf (x y : Hh) (la lb : List Lg) : List Ks := ckL x.1 y.1 1 (meO alV la lb) ++ ckL x.1 y.1 2 (meO (alD x y) la lb)
theorem clOf_len (x y : Hh) (la lb : List Lg) : (clOf x y la lb).length ≤ 2 := by
  have h1 := ckL_len x.1 y.1 1 (meO alV la lb)
  have h2 := ckL_len x.1 y.1 2 (meO (alD x y) la lb)
  rw [clOf, List.length_append]
  omega
theorem cf_alV : ∀ (args : Array Value) (w : World), (callFunc 151 args).run Tryd.prog w = .ok (.enter 151 args) w := fun args w => by kernel_rfl
theorem cf_alD : ∀ (args : Array Value) (w : World), (callFunc 152 args).run Tryd.prog w = .ok (.enter 152 args) w := fun args w => by kernel_rfl
set_option maxRecDepth 100000 in
set_option maxHeartbeats 4000000 in
theorem clashesOf_c (x y : Hh) (va vb : Value) (la lb : List Lg) (w : World) (hra : RdR w 9 lgC va la) (hrb : RdR w 9 lgC vb lb) (hna : la.length ≤ 1000) (hnb : lb.length ≤ 1000) :
    Calls Tryd.prog 110 #[.agg (hiC x va), .agg (hiC y vb)] w fun e w' => ∃ v', e = .returned v' ∧ RdR w' 4 ksC v' (clOf x y la lb) ∧ G w w' none := by
  have hA := ((Bk.new w 33 (hiC x va)).alloc (.cells (hiC y vb) 33)).alloc (.cells #[.slice none 0 0] 70)
  have hB := (Bk.newAt (w := w.alloc (.cells (hiC x va) 33)) (b := w.heap.size + 1) (by simp) 33 (hiC y vb)).alloc (.cells #[.slice none 0 0] 70)
  have hC := Bk.newAt (w := (w.alloc (.cells (hiC x va) 33)).alloc (.cells (hiC y vb) 33)) (b := w.heap.size + 2) (by simp) 70 #[.slice none 0 0]
  have hG := (((G.refl w none).alloc (.cells (hiC x va) 33)).alloc (.cells (hiC y vb) 33)).alloc (.cells #[.slice none 0 0] 70)
  have hra' := Rd.blk hra
  have hrb' := Rd.blk hrb
  have hRa := hra.quiet hG
  have hRb := hrb.quiet hG
  have hlt := hC.lt
  obtain ⟨aa, ca, rfl, -, -⟩ := RdR.form hra
  obtain ⟨ab, cb, rfl, -, -⟩ := RdR.form hrb
  clear hra hrb
  simp only [hiC] at hA hB hC hG hRa hRb hlt ⊢
  go_enter Tryd.func110, Tryd.ntmps110
  go_upto_region 3 with fail
  generalize ((w.alloc (.cells #[.string x.1, .string x.2.1, .int .i64 x.2.2.1, .int .i64 x.2.2.2, .slice aa la.length ca] 33)).alloc (.cells #[.string y.1, .string y.2.1, .int .i64 y.2.2.1, .int .i64 y.2.2.2, .slice ab lb.length cb] 33)).alloc (.cells #[.slice none 0 0] 70) = w2 at hA hB hC hG hRa hRb hlt ⊢
  have hlA := Rd.blk hRa
  have hlB := Rd.blk hRb
  go_wp2_with fail
  have hSS : ∀ k, (k = w.heap.size + 2 ∨ w2.heap.size ≤ k) → w.heap.size ≤ k := fun k hk => by omega
  refine (add_c 151 #[] alV 1 x y _ _ (.slice none 0 0) la lb [] w.heap.size (w.heap.size + 1) (w.heap.size + 2) w.heap.size w2.heap.size w2 cf_alV (fun p q w' _ => by simpa using alV_c p q w') hA hB hRa hRb hna hnb hC (World.ownsRow_nil _ _ _ _) (by simp) (by omega) (by omega) (Nat.le_refl _)).mono ?_; rintro e w3 ⟨rfl, v1, hC3, hown3, hS3⟩
  have hA3 := hA.gs hS3 (by omega)
  have hB3 := hB.gs hS3 (by omega)
  have hRa3 := Rd.gs hRa hS3 (fun k e => by have := hlA k e; have := hra' k e; omega)
  have hRb3 := Rd.gs hRb hS3 (fun k e => by have := hlB k e; have := hrb' k e; omega)
  have hG3 := GS.own hG hS3 hSS
  have hl3 := ckL_len x.1 y.1 1 (meO alV la lb)
  rw [List.nil_append] at hown3
  have hbw := hS3.size
  clear hA hB hC hRa hRb hG hS3 hlA hlB
  go_wp2_with fail
  refine (add_c 152 #[.pointer (some ⟨w.heap.size, 0, none⟩), .pointer (some ⟨w.heap.size + 1, 0, none⟩)] (alD x y) 2 x y _ _ v1 la lb _ w.heap.size (w.heap.size + 1) (w.heap.size + 2) w.heap.size w2.heap.size w3 cf_alD (fun p q w' hg => alD_c x y _ _ _ _ p q w' (hA3.quiet hg) (hB3.quiet hg)) hA3 hB3 hRa3 hRb3 hna hnb hC3 hown3 (by omega) (by omega) (by omega) hbw).mono ?_; rintro e w4 ⟨rfl, v2, hC4, hown4, hS4⟩
  have hG4 := GS.own hG3 hS4 hSS
  have HR := Lib.hid (Rd.of_owns hown4)
  obtain ⟨a8, c8, hv, -, -⟩ := RdR.form (c := ksC) (Rd.of_owns hown4)
  obtain ⟨nn, hnn⟩ : ∃ nn, (ckL x.1 y.1 1 (meO alV la lb) ++ ckL x.1 y.1 2 (meO (alD x y) la lb)).length = nn := ⟨_, rfl⟩
  rw [hnn] at hv
  clear hnn
  subst hv
  have c0 : w4.cell? ⟨w.heap.size + 2, 0, none⟩ = some _ := hC4.cell 0
  clear hA3 hB3 hRa3 hRb3 hC3 hown3 hS4 hC4 hown4 hG3
  go_wp2_with fail
  go_ret
  exact ⟨_, rfl, HR.out, hG4⟩
end Go.Proofs.YtdcofbciebkfkaaDoor
