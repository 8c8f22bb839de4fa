/- Soi, Spc, Pck, Pla, Plb, Pld, Drp, Plc, Ple, Plf. -/
import Derived.Test.YtkpmcakppiinlaaZn1
import Derived.StillTailTactics
import Derived.LoopN
import Derived.Deep.CutRange
/- slices.SortStableFunc at ints, fewer than 20: insertion. Written by gensoi.py. -/
namespace Go.Proofs.Ytkpmcakppiinlaa
open Go.RowKit

def inC (n : Int) : Array Value := #[.int .i64 n]
theorem inC_sz (n : Int) : (inC n).size = 1 := rfl
theorem in_rowL (l : List Int) : rowL inC l = l.map (Value.int .i64) := by
  induction l with
  | nil => rfl
  | cons s l ih => rw [rowL_cons, ih]; rfl
theorem in_rowOk : RowOk Try.prog 3 22 1 8 (.int .i64 0) inC := ⟨by kernel_rfl, Try.underlying22, fun r u hu => by simp [inC] at hu; subst hu; rfl, inC_sz, rfl, by omega, by omega⟩
abbrev OwnIn (w : World) (base : Nat) (v : Value) (l : List Int) : Prop := OwnX 3 1 inC w base v l
theorem OwnX.form0 {α : Type} {T : TypeId} {z : Nat} {c : α → Array Value} {w : World} {base : Nat} {v : Value} {l : List α} (h : OwnX T z c w base v l) (h0 : 0 < l.length) : ∃ g cap cur, v = .slice (some ⟨g, 0, none⟩) l.length cap ∧ Bk w g T cur := by
  rcases h.2 with ⟨rfl, h3⟩ | ⟨g, cap, cur, rfl, hb, hg, _⟩
  · omega
  · exact ⟨g, cap, cur, rfl, hg⟩
/-- One number moves down as far as it is less than the one before it. -/
def insJ {α : Type} (c : α → α → Bool) : Nat → List α → List α
  | 0, l => l
  | j + 1, l => match l[j + 1]?, l[j]? with
    | some x, some y => if c x y = true then insJ c j ((l.set (j + 1) y).set j x) else l
    | _, _ => l
/-- The numbers from a place on move down, one after the other. -/
def isF {α : Type} (c : α → α → Bool) : Nat → Nat → List α → List α
  | 0, _, l => l
  | n + 1, i, l => isF c n (i + 1) (insJ c i l)
def isrt {α : Type} (c : α → α → Bool) (l : List α) : List α := isF c (l.length - 1) 1 l
theorem insJ_len {α : Type} (c : α → α → Bool) : ∀ (j : Nat) (l : List α), (insJ c j l).length = l.length
  | 0, _ => rfl
  | j + 1, l => by
    unfold insJ
    split
    · split
      · rw [insJ_len c j]; simp
      · rfl
    · rfl
theorem isF_len {α : Type} (c : α → α → Bool) : ∀ (n i : Nat) (l : List α), (isF c n i l).length = l.length
  | 0, _, _ => rfl
  | n + 1, i, l => by rw [isF, isF_len c n, insJ_len]
theorem soi_set {w : World} {base g n cap : Nat} {l : List Int} (h : OwnIn w base (.slice (some ⟨g, 0, none⟩) n cap) l) (hl : l.length = n) {j : Nat} {x : Int} (hx : l[j]? = some x) (y : Int) : OwnIn (w.setCell ⟨g, j, none⟩ (.int .i64 y)) base (.slice (some ⟨g, 0, none⟩) n cap) (l.set j y) := by
  subst hl
  have h2 := OwnX.set (c := inC) inC_sz h hx 0 (.int .i64 y) (by omega) (q := y) rfl
  unfold OwnIn OwnX
  rw [List.length_set]
  simpa using h2
theorem soi_free {w : World} {base g n cap : Nat} {l : List Int} (h : OwnIn w base (.slice (some ⟨g, 0, none⟩) n cap) l) (hl : l.length = n) (j : Nat) : w.frozen? ⟨g, j, none⟩ = false := by
  subst hl
  exact ownsRow_free h j
/-- What may be written: the list's own block. -/
def S1 (v : Value) (k : Nat) : Prop := v.ownBlock = some k
def SoRel (w : World) (base : Nat) (v : Value) (c : Int → Int → Bool) (l0 : List Int) (s8 : Value) (wr : World) : Prop :=
  ∃ (i : Nat) (l : List Int), 1 ≤ i ∧ i ≤ max l0.length 1 ∧ s8 = .int .i64 i ∧ isrt c l0 = isF c (l0.length - i) i l ∧ l.length = l0.length ∧ (∀ z ∈ l, z ∈ l0) ∧ OwnIn wr base v l ∧ GS (S1 v) w wr
def SiRel (w : World) (base : Nat) (v : Value) (c : Int → Int → Bool) (l0 : List Int) (i : Nat) (li : List Int) (s9 : Value) (wr : World) : Prop :=
  ∃ (j : Nat) (l : List Int), j ≤ i ∧ s9 = .int .i64 j ∧ insJ c i li = insJ c j l ∧ l.length = l0.length ∧ (∀ z ∈ l, z ∈ l0) ∧ OwnIn wr base v l ∧ GS (S1 v) w wr
set_option maxRecDepth 100000 in
set_option maxHeartbeats 8000000 in
theorem insSort_c (F : FuncId) (caps : Array Value) (cf : Int → Int → Int) (v : Value) (l0 : List Int) (base : Nat) (w : World) (hcf : ∀ (args : Array Value) (w : World), (callFunc F args).run Try.prog w = .ok (.enter F args) w)
    (hal : ∀ (x y : Int) (w' : World), x ∈ l0 → y ∈ l0 → GS (S1 v) w w' → Calls Try.prog F (#[.int .i64 x, .int .i64 y] ++ caps) w' fun e w'' => e = .returned (.int .i64 (cf x y)) ∧ G w' w'' none)
    (hown : OwnIn w base v l0) (hn : l0.length ≤ 1000) :
    Calls Try.prog 53 #[v, .int .i64 0, .int .i64 l0.length, .func (.func F) #[] caps] w fun e w' => e = .returned (.tuple #[]) ∧ OwnIn w' base v (isrt (fun x y => decide (cf x y < 0)) l0) ∧ GS (S1 v) w w' := by
  have HAL := Lib.hid hal
  obtain ⟨a, cap, rfl, hcap, hm⟩ := RdR.form (c := inC) (Rd.of_owns hown)
  clear hal
  go_enter Try.func53, Try.ntmps53
  go_wp2_with fail
  go_loopw [8] (SoRel w base (.slice a l0.length cap) (fun x y => decide (cf x y < 0)) l0) (fun i _ => l0.length - (intOf i).toNat)
  case atStart => exact ⟨1, l0, by omega, by omega, rfl, rfl, rfl, fun z hz => hz, hown, GS.refl _ _⟩
  case round =>
    obtain ⟨i, l, hi1, hil, rfl, heq, hll, hsub, hownr, hGr⟩ := hrel
    have HSUB := Lib.hid hsub
    clear hsub
    have HE := Lib.hid heq
    clear heq hown
    by_cases hlt : i < l0.length
    · have HD : Hid (isrt (fun x y => decide (cf x y < 0)) l0 = isF (fun x y => decide (cf x y < 0)) (l0.length - (i + 1)) (i + 1) (insJ (fun x y => decide (cf x y < 0)) i l)) := Lib.hid (by
        rw [HE.out, show l0.length - i = (l0.length - (i + 1)) + 1 by omega, isF])
      have HI := Lib.hid hlt
      go_wp2_with fail
      go_loopw [9] (SiRel w base (.slice a l0.length cap) (fun x y => decide (cf x y < 0)) l0 i l) (fun j _ => (intOf j).toNat)
      case atStart => exact ⟨i, l, by omega, rfl, rfl, hll, HSUB.out, hownr, hGr⟩
      case round =>
        clear hownr hGr
        obtain ⟨j, l', hji, rfl, heq, hl', hsub2, hown2, hG2⟩ := hrel
        have HSUB2 := Lib.hid hsub2
        clear hsub2
        have HQ := Lib.hid heq
        clear heq
        match j, hji, HQ with
        | 0, hji, HQ =>
          have HF : Hid (insJ (fun x y => decide (cf x y < 0)) i l = l') := Lib.hid (by rw [HQ.out, insJ])
          have h0 : ¬ ((0 : Int) > 0) := by omega
          go_upto_region 4 with fail
          refine wp_region_held_drew (S := (fun _ : World => True)) (by kernel_rfl) ?_ (fun hHeld => ?_)
          · exact trivial
          refine wpAnyH_take (i := 0) (oi := { dst := some 18, op := Op.move (Operand.tmp 9), type := 3, pos := _, after := #[], guard := none }) (v := ?_) rfl (by kernel_rfl) (by kernel_rfl) (by kernel_rfl) (fun _ _ _ h => h) (Or.inl ⟨by rfl, ?_⟩) (by assumption) ?_
          rotate_left
          · (intro w hSw; clear hSw; (go_simp <;> with_reducible rfl))
          try simp only [Act.put, List.setIfInBounds_toArray, List.set_cons_zero, List.set_cons_succ]
          refine wpAnyH_take (i := 1) (oi := { dst := some 19, op := Op.move (Operand.tmp 1), type := 3, pos := _, after := #[], guard := none }) (v := ?_) rfl (by kernel_rfl) (by kernel_rfl) (by kernel_rfl) (fun _ _ _ h => h) (Or.inl ⟨by rfl, ?_⟩) (by assumption) ?_
          rotate_left
          · (intro w hSw; clear hSw; (go_simp <;> with_reducible rfl))
          try simp only [Act.put, List.setIfInBounds_toArray, List.set_cons_zero, List.set_cons_succ]
          refine wpAnyH_take (i := 2) (oi := { dst := some 20, op := Op.binOp BinOp.gtr 3 (Operand.tmp 18) (Operand.tmp 19) 3, type := 4, pos := _, after := #[{ on := 0, ground := Ground.data }, { on := 1, ground := Ground.data }], guard := none }) (v := ?_) rfl (by kernel_rfl) (by kernel_rfl) (by kernel_rfl) (fun _ _ _ h => h) (Or.inl ⟨by rfl, ?_⟩) (by assumption) ?_
          rotate_left
          · (intro w hSw; clear hSw; (go_simp <;> with_reducible rfl))
          try simp only [Act.put, List.setIfInBounds_toArray, List.set_cons_zero, List.set_cons_succ]
          refine wpAnyH_take (i := 3) (oi := { dst := some 21, op := Op.move (Operand.tmp 20), type := 4, pos := _, after := #[{ on := 2, ground := Ground.data }], guard := none }) (v := ?_) rfl (by kernel_rfl) (by kernel_rfl) (by kernel_rfl) (fun _ _ _ h => h) (Or.inl ⟨by rfl, ?_⟩) (by assumption) ?_
          rotate_left
          · (intro w hSw; clear hSw; (go_simp <;> with_reducible rfl))
          try simp only [Act.put, List.setIfInBounds_toArray, List.set_cons_zero, List.set_cons_succ]
          refine wpAnyH_take (i := 4) (oi := { dst := some 22, op := Op.move (Operand.tmp 3), type := 29, pos := _, after := #[{ on := 3, ground := Ground.guard }], guard := some (3, true) }) (v := undef) rfl (by kernel_rfl) (by kernel_rfl) (by kernel_rfl) (fun _ _ _ h => h) (Or.inr ⟨by rfl, rfl⟩) (by assumption) ?_
          try simp only [Act.put, List.setIfInBounds_toArray, List.set_cons_zero, List.set_cons_succ]
          refine wpAnyH_take (i := 5) (oi := { dst := some 23, op := Op.move (Operand.tmp 0), type := 22, pos := _, after := #[{ on := 3, ground := Ground.guard }], guard := some (3, true) }) (v := undef) rfl (by kernel_rfl) (by kernel_rfl) (by kernel_rfl) (fun _ _ _ h => h) (Or.inr ⟨by rfl, rfl⟩) (by assumption) ?_
          try simp only [Act.put, List.setIfInBounds_toArray, List.set_cons_zero, List.set_cons_succ]
          refine wpAnyH_take (i := 6) (oi := { dst := some 24, op := Op.move (Operand.tmp 9), type := 3, pos := _, after := #[{ on := 3, ground := Ground.guard }], guard := some (3, true) }) (v := undef) rfl (by kernel_rfl) (by kernel_rfl) (by kernel_rfl) (fun _ _ _ h => h) (Or.inr ⟨by rfl, rfl⟩) (by assumption) ?_
          try simp only [Act.put, List.setIfInBounds_toArray, List.set_cons_zero, List.set_cons_succ]
          refine wpAnyH_take (i := 7) (oi := { dst := some 25, op := Op.indexAddr 22 (Operand.tmp 23) (Operand.tmp 24), type := 0, pos := _, after := #[{ on := 5, ground := Ground.data }, { on := 6, ground := Ground.data }, { on := 3, ground := Ground.guard }], guard := some (3, true) }) (v := undef) rfl (by kernel_rfl) (by kernel_rfl) (by kernel_rfl) (fun _ _ _ h => h) (Or.inr ⟨by rfl, rfl⟩) (by assumption) ?_
          try simp only [Act.put, List.setIfInBounds_toArray, List.set_cons_zero, List.set_cons_succ]
          refine wpAnyH_take (i := 8) (oi := { dst := some 26, op := Op.load 3 (Operand.tmp 25), type := 3, pos := _, after := #[{ on := 7, ground := Ground.data }, { on := 3, ground := Ground.guard }], guard := some (3, true) }) (v := undef) rfl (by kernel_rfl) (by kernel_rfl) (by kernel_rfl) (fun _ _ _ h => h) (Or.inr ⟨by rfl, rfl⟩) (by assumption) ?_
          try simp only [Act.put, List.setIfInBounds_toArray, List.set_cons_zero, List.set_cons_succ]
          refine wpAnyH_take (i := 9) (oi := { dst := some 27, op := Op.move (Operand.tmp 0), type := 22, pos := _, after := #[{ on := 3, ground := Ground.guard }], guard := some (3, true) }) (v := undef) rfl (by kernel_rfl) (by kernel_rfl) (by kernel_rfl) (fun _ _ _ h => h) (Or.inr ⟨by rfl, rfl⟩) (by assumption) ?_
          try simp only [Act.put, List.setIfInBounds_toArray, List.set_cons_zero, List.set_cons_succ]
          refine wpAnyH_take (i := 10) (oi := { dst := some 28, op := Op.move (Operand.tmp 9), type := 3, pos := _, after := #[{ on := 3, ground := Ground.guard }], guard := some (3, true) }) (v := undef) rfl (by kernel_rfl) (by kernel_rfl) (by kernel_rfl) (fun _ _ _ h => h) (Or.inr ⟨by rfl, rfl⟩) (by assumption) ?_
          try simp only [Act.put, List.setIfInBounds_toArray, List.set_cons_zero, List.set_cons_succ]
          refine wpAnyH_take (i := 11) (oi := { dst := some 29, op := Op.binOp BinOp.sub 3 (Operand.tmp 28) (Operand.const (Value.int IntKind.i64 1)) 3, type := 3, pos := _, after := #[{ on := 10, ground := Ground.data }, { on := 3, ground := Ground.guard }], guard := some (3, true) }) (v := undef) rfl (by kernel_rfl) (by kernel_rfl) (by kernel_rfl) (fun _ _ _ h => h) (Or.inr ⟨by rfl, rfl⟩) (by assumption) ?_
          try simp only [Act.put, List.setIfInBounds_toArray, List.set_cons_zero, List.set_cons_succ]
          refine wpAnyH_take (i := 12) (oi := { dst := some 30, op := Op.indexAddr 22 (Operand.tmp 27) (Operand.tmp 29), type := 0, pos := _, after := #[{ on := 9, ground := Ground.data }, { on := 11, ground := Ground.data }, { on := 3, ground := Ground.guard }], guard := some (3, true) }) (v := undef) rfl (by kernel_rfl) (by kernel_rfl) (by kernel_rfl) (fun _ _ _ h => h) (Or.inr ⟨by rfl, rfl⟩) (by assumption) ?_
          try simp only [Act.put, List.setIfInBounds_toArray, List.set_cons_zero, List.set_cons_succ]
          refine wpAnyH_take (i := 13) (oi := { dst := some 31, op := Op.load 3 (Operand.tmp 30), type := 3, pos := _, after := #[{ on := 12, ground := Ground.data }, { on := 3, ground := Ground.guard }], guard := some (3, true) }) (v := undef) rfl (by kernel_rfl) (by kernel_rfl) (by kernel_rfl) (fun _ _ _ h => h) (Or.inr ⟨by rfl, rfl⟩) (by assumption) ?_
          try simp only [Act.put, List.setIfInBounds_toArray, List.set_cons_zero, List.set_cons_succ]
          refine wpAnyH_take (i := 14) (oi := { dst := some 32, op := Op.call { callee := Callee.value (Operand.tmp 22), args := #[Operand.tmp 26, Operand.tmp 31], argTypes := #[3, 3] }, type := 3, pos := _, after := #[{ on := 4, ground := Ground.data }, { on := 8, ground := Ground.data }, { on := 13, ground := Ground.data }, { on := 3, ground := Ground.chain }, { on := 3, ground := Ground.guard }], guard := some (3, true) }) (v := undef) rfl (by kernel_rfl) (by kernel_rfl) (by kernel_rfl) (fun _ _ _ h => h) (Or.inr ⟨by rfl, rfl⟩) (by assumption) ?_
          try simp only [Act.put, List.setIfInBounds_toArray, List.set_cons_zero, List.set_cons_succ]
          refine wpAnyH_take (i := 15) (oi := { dst := some 33, op := Op.binOp BinOp.lss 3 (Operand.tmp 32) (Operand.const (Value.int IntKind.i64 0)) 3, type := 4, pos := _, after := #[{ on := 14, ground := Ground.data }, { on := 3, ground := Ground.guard }], guard := some (3, true) }) (v := undef) rfl (by kernel_rfl) (by kernel_rfl) (by kernel_rfl) (fun _ _ _ h => h) (Or.inr ⟨by rfl, rfl⟩) (by assumption) ?_
          try simp only [Act.put, List.setIfInBounds_toArray, List.set_cons_zero, List.set_cons_succ]
          refine wpAnyH_take (i := 16) (oi := { dst := some 34, op := Op.pick (Operand.tmp 21) (Operand.tmp 33) (Operand.const (Value.bool false)), type := 4, pos := _, after := #[{ on := 3, ground := Ground.data }, { on := 15, ground := Ground.data }], guard := none }) (v := ?_) rfl (by kernel_rfl) (by kernel_rfl) (by kernel_rfl) (fun _ _ _ h => h) (Or.inl ⟨by rfl, ?_⟩) (by assumption) ?_
          rotate_left
          · (intro w hSw; clear hSw; (go_simp <;> with_reducible rfl))
          try simp only [Act.put, List.setIfInBounds_toArray, List.set_cons_zero, List.set_cons_succ]
          refine wpAnyH_done (by kernel_rfl) ?_ _
          generalize hwd : wr.drew = wd at hHeld ⊢
          have hown3 : OwnIn wd base (.slice a l0.length cap) l' := by rw [← hwd]; exact OwnX.drew hown2
          have hG3 : GS (S1 (.slice a l0.length cap)) w wd := by rw [← hwd]; exact hG2.trans (GS.of_G (G.refl wr none).drew)
          clear hwd hHeld
          go_wp2_with fail
          go_roundw
          case rel => exact ⟨i + 1, l', by omega, by omega, by go_num, by rw [HD.out, HF.out], hl', HSUB2.out, hown3, hG3⟩
          case measure => have := HI.out; simp [intOf]; omega
        | j + 1, hji, HQ =>
          obtain ⟨x, hx⟩ : ∃ x, l'[j + 1]? = some x := ⟨_, List.getElem?_eq_getElem (by omega)⟩
          obtain ⟨y, hy⟩ : ∃ y, l'[j]? = some y := ⟨_, List.getElem?_eq_getElem (by omega)⟩
          have HDJ : Hid (insJ (fun x y => decide (cf x y < 0)) i l = if cf x y < 0 then insJ (fun x y => decide (cf x y < 0)) j ((l'.set (j + 1) y).set j x) else l') := Lib.hid (by
            rw [HQ.out, insJ, hx, hy]; simp)
          obtain ⟨g, cap', cur, e, hB⟩ := OwnX.form0 hown2 (by omega)
          rw [hl'] at e
          cases e
          have hcx : ∀ w', G wr w' none → w'.cell? ⟨g, j + 1, none⟩ = some (.int .i64 x) := fun w' q => by
            have := RdR.cell inC_sz (Rd.of_owns hown2) q hx 0 (.int .i64 x) rfl
            simpa using this
          have hcy : ∀ w', G wr w' none → w'.cell? ⟨g, j, none⟩ = some (.int .i64 y) := fun w' q => by
            have := RdR.cell inC_sz (Rd.of_owns hown2) q hy 0 (.int .i64 y) rfl
            simpa using this
          have HG0 := Lib.hid hG2
          have h0 : ((j : Int) + 1) > 0 := by omega
          have h1 : IntKind.i64.wrap ((j : Int) + 1 - 1) = (j : Int) := by rw [IntKind.wrap_i64]; omega
          have h2 : IntKind.i64.wrap (j : Int) = (j : Int) := by rw [IntKind.wrap_i64]; omega
          have h3 : (j : Int) + 1 < (l0.length : Int) := by omega
          have h4 : (j : Int) < (l0.length : Int) := by omega
          have h5 : (0 : Int) ≤ (j : Int) + 1 := by omega
          have h6 : (0 : Int) ≤ (j : Int) := by omega
          go_upto_region 4 with fail
          have hS := (G.refl wr none).drew
          refine wp_region_held_drew (S := (fun w' : World => w'.cell? ⟨g, j + 1, none⟩ = some (.int .i64 x) ∧ w'.cell? ⟨g, j, none⟩ = some (.int .i64 y))) (by kernel_rfl) ?_ (fun hHeld => ?_)
          · exact ⟨hcx _ hS, hcy _ hS⟩
          refine wpAnyH_take (i := 0) (oi := { dst := some 18, op := Op.move (Operand.tmp 9), type := 3, pos := _, after := #[], guard := none }) (v := ?_) rfl (by kernel_rfl) (by kernel_rfl) (by kernel_rfl) (fun _ _ _ h => h) (Or.inl ⟨by rfl, ?_⟩) (by assumption) ?_
          rotate_left
          · (intro w hSw; obtain ⟨z0, z1⟩ := hSw; (go_simp <;> with_reducible rfl))
          try simp only [Act.put, List.setIfInBounds_toArray, List.set_cons_zero, List.set_cons_succ]
          refine wpAnyH_take (i := 1) (oi := { dst := some 19, op := Op.move (Operand.tmp 1), type := 3, pos := _, after := #[], guard := none }) (v := ?_) rfl (by kernel_rfl) (by kernel_rfl) (by kernel_rfl) (fun _ _ _ h => h) (Or.inl ⟨by rfl, ?_⟩) (by assumption) ?_
          rotate_left
          · (intro w hSw; obtain ⟨z0, z1⟩ := hSw; (go_simp <;> with_reducible rfl))
          try simp only [Act.put, List.setIfInBounds_toArray, List.set_cons_zero, List.set_cons_succ]
          refine wpAnyH_take (i := 2) (oi := { dst := some 20, op := Op.binOp BinOp.gtr 3 (Operand.tmp 18) (Operand.tmp 19) 3, type := 4, pos := _, after := #[{ on := 0, ground := Ground.data }, { on := 1, ground := Ground.data }], guard := none }) (v := ?_) rfl (by kernel_rfl) (by kernel_rfl) (by kernel_rfl) (fun _ _ _ h => h) (Or.inl ⟨by rfl, ?_⟩) (by assumption) ?_
          rotate_left
          · (intro w hSw; obtain ⟨z0, z1⟩ := hSw; (go_simp <;> with_reducible rfl))
          try simp only [Act.put, List.setIfInBounds_toArray, List.set_cons_zero, List.set_cons_succ]
          refine wpAnyH_take (i := 3) (oi := { dst := some 21, op := Op.move (Operand.tmp 20), type := 4, pos := _, after := #[{ on := 2, ground := Ground.data }], guard := none }) (v := ?_) rfl (by kernel_rfl) (by kernel_rfl) (by kernel_rfl) (fun _ _ _ h => h) (Or.inl ⟨by rfl, ?_⟩) (by assumption) ?_
          rotate_left
          · (intro w hSw; obtain ⟨z0, z1⟩ := hSw; (go_simp <;> with_reducible rfl))
          try simp only [Act.put, List.setIfInBounds_toArray, List.set_cons_zero, List.set_cons_succ]
          refine wpAnyH_take (i := 4) (oi := { dst := some 22, op := Op.move (Operand.tmp 3), type := 29, pos := _, after := #[{ on := 3, ground := Ground.guard }], guard := some (3, true) }) (v := ?_) rfl (by kernel_rfl) (by kernel_rfl) (by kernel_rfl) (fun _ _ _ h => h) (Or.inl ⟨by rfl, ?_⟩) (by assumption) ?_
          rotate_left
          · (intro w hSw; obtain ⟨z0, z1⟩ := hSw; (go_simp <;> with_reducible rfl))
          try simp only [Act.put, List.setIfInBounds_toArray, List.set_cons_zero, List.set_cons_succ]
          refine wpAnyH_take (i := 5) (oi := { dst := some 23, op := Op.move (Operand.tmp 0), type := 22, pos := _, after := #[{ on := 3, ground := Ground.guard }], guard := some (3, true) }) (v := ?_) rfl (by kernel_rfl) (by kernel_rfl) (by kernel_rfl) (fun _ _ _ h => h) (Or.inl ⟨by rfl, ?_⟩) (by assumption) ?_
          rotate_left
          · (intro w hSw; obtain ⟨z0, z1⟩ := hSw; (go_simp <;> with_reducible rfl))
          try simp only [Act.put, List.setIfInBounds_toArray, List.set_cons_zero, List.set_cons_succ]
          refine wpAnyH_take (i := 6) (oi := { dst := some 24, op := Op.move (Operand.tmp 9), type := 3, pos := _, after := #[{ on := 3, ground := Ground.guard }], guard := some (3, true) }) (v := ?_) rfl (by kernel_rfl) (by kernel_rfl) (by kernel_rfl) (fun _ _ _ h => h) (Or.inl ⟨by rfl, ?_⟩) (by assumption) ?_
          rotate_left
          · (intro w hSw; obtain ⟨z0, z1⟩ := hSw; (go_simp <;> with_reducible rfl))
          try simp only [Act.put, List.setIfInBounds_toArray, List.set_cons_zero, List.set_cons_succ]
          refine wpAnyH_take (i := 7) (oi := { dst := some 25, op := Op.indexAddr 22 (Operand.tmp 23) (Operand.tmp 24), type := 0, pos := _, after := #[{ on := 5, ground := Ground.data }, { on := 6, ground := Ground.data }, { on := 3, ground := Ground.guard }], guard := some (3, true) }) (v := ?_) rfl (by kernel_rfl) (by kernel_rfl) (by kernel_rfl) (fun _ _ _ h => h) (Or.inl ⟨by rfl, ?_⟩) (by assumption) ?_
          rotate_left
          · (intro w hSw; obtain ⟨z0, z1⟩ := hSw; (go_simp <;> with_reducible rfl))
          try simp only [Act.put, List.setIfInBounds_toArray, List.set_cons_zero, List.set_cons_succ]
          refine wpAnyH_take (i := 8) (oi := { dst := some 26, op := Op.load 3 (Operand.tmp 25), type := 3, pos := _, after := #[{ on := 7, ground := Ground.data }, { on := 3, ground := Ground.guard }], guard := some (3, true) }) (v := ?_) rfl (by kernel_rfl) (by kernel_rfl) (by kernel_rfl) (fun _ _ _ h => h) (Or.inl ⟨by rfl, ?_⟩) (by assumption) ?_
          rotate_left
          · (intro w hSw; obtain ⟨z0, z1⟩ := hSw; (go_simp <;> with_reducible rfl))
          try simp only [Act.put, List.setIfInBounds_toArray, List.set_cons_zero, List.set_cons_succ]
          refine wpAnyH_take (i := 9) (oi := { dst := some 27, op := Op.move (Operand.tmp 0), type := 22, pos := _, after := #[{ on := 3, ground := Ground.guard }], guard := some (3, true) }) (v := ?_) rfl (by kernel_rfl) (by kernel_rfl) (by kernel_rfl) (fun _ _ _ h => h) (Or.inl ⟨by rfl, ?_⟩) (by assumption) ?_
          rotate_left
          · (intro w hSw; obtain ⟨z0, z1⟩ := hSw; (go_simp <;> with_reducible rfl))
          try simp only [Act.put, List.setIfInBounds_toArray, List.set_cons_zero, List.set_cons_succ]
          refine wpAnyH_take (i := 10) (oi := { dst := some 28, op := Op.move (Operand.tmp 9), type := 3, pos := _, after := #[{ on := 3, ground := Ground.guard }], guard := some (3, true) }) (v := ?_) rfl (by kernel_rfl) (by kernel_rfl) (by kernel_rfl) (fun _ _ _ h => h) (Or.inl ⟨by rfl, ?_⟩) (by assumption) ?_
          rotate_left
          · (intro w hSw; obtain ⟨z0, z1⟩ := hSw; (go_simp <;> with_reducible rfl))
          try simp only [Act.put, List.setIfInBounds_toArray, List.set_cons_zero, List.set_cons_succ]
          refine wpAnyH_take (i := 11) (oi := { dst := some 29, op := Op.binOp BinOp.sub 3 (Operand.tmp 28) (Operand.const (Value.int IntKind.i64 1)) 3, type := 3, pos := _, after := #[{ on := 10, ground := Ground.data }, { on := 3, ground := Ground.guard }], guard := some (3, true) }) (v := ?_) rfl (by kernel_rfl) (by kernel_rfl) (by kernel_rfl) (fun _ _ _ h => h) (Or.inl ⟨by rfl, ?_⟩) (by assumption) ?_
          rotate_left
          · (intro w hSw; obtain ⟨z0, z1⟩ := hSw; (go_simp <;> with_reducible rfl))
          try simp only [Act.put, List.setIfInBounds_toArray, List.set_cons_zero, List.set_cons_succ]
          refine wpAnyH_take (i := 12) (oi := { dst := some 30, op := Op.indexAddr 22 (Operand.tmp 27) (Operand.tmp 29), type := 0, pos := _, after := #[{ on := 9, ground := Ground.data }, { on := 11, ground := Ground.data }, { on := 3, ground := Ground.guard }], guard := some (3, true) }) (v := ?_) rfl (by kernel_rfl) (by kernel_rfl) (by kernel_rfl) (fun _ _ _ h => h) (Or.inl ⟨by rfl, ?_⟩) (by assumption) ?_
          rotate_left
          · (intro w hSw; obtain ⟨z0, z1⟩ := hSw; (go_simp <;> with_reducible rfl))
          try simp only [Act.put, List.setIfInBounds_toArray, List.set_cons_zero, List.set_cons_succ]
          refine wpAnyH_take (i := 13) (oi := { dst := some 31, op := Op.load 3 (Operand.tmp 30), type := 3, pos := _, after := #[{ on := 12, ground := Ground.data }, { on := 3, ground := Ground.guard }], guard := some (3, true) }) (v := ?_) rfl (by kernel_rfl) (by kernel_rfl) (by kernel_rfl) (fun _ _ _ h => h) (Or.inl ⟨by rfl, ?_⟩) (by assumption) ?_
          rotate_left
          · (intro w hSw; obtain ⟨z0, z1⟩ := hSw; (go_simp <;> with_reducible rfl))
          try simp only [Act.put, List.setIfInBounds_toArray, List.set_cons_zero, List.set_cons_succ]
          refine wpAnyH_ready (rs := [14]) (by kernel_rfl) (by simp) ?_
          refine AllReadyH.cons (o := { dst := some 32, op := Op.call { callee := Callee.value (Operand.tmp 22), args := #[Operand.tmp 26, Operand.tmp 31], argTypes := #[3, 3] }, type := 3, pos := _, after := #[{ on := 4, ground := Ground.data }, { on := 8, ground := Ground.data }, { on := 13, ground := Ground.data }, { on := 3, ground := Ground.chain }, { on := 3, ground := Ground.guard }], guard := some (3, true) }) rfl (fun K hK => ?_) AllReadyH.nil
          go_simp
          refine (HAL.out x y _ (HSUB2.out _ (List.mem_of_getElem? hx)) (HSUB2.out _ (List.mem_of_getElem? hy)) (HG0.out.trans (GS.of_G hS))).mono ?_
          rintro e w4 ⟨rfl, hh⟩
          replace hS := hS.trans hh
          clear hh
          refine hK.out _ _ ?_ (fun hHeld => ?_)
          · exact ⟨hcx _ hS, hcy _ hS⟩
          clear hK K
          try simp only [Act.put, List.setIfInBounds_toArray, List.set_cons_zero, List.set_cons_succ]
          refine wpAnyH_take (i := 15) (oi := { dst := some 33, op := Op.binOp BinOp.lss 3 (Operand.tmp 32) (Operand.const (Value.int IntKind.i64 0)) 3, type := 4, pos := _, after := #[{ on := 14, ground := Ground.data }, { on := 3, ground := Ground.guard }], guard := some (3, true) }) (v := ?_) rfl (by kernel_rfl) (by kernel_rfl) (by kernel_rfl) (fun _ _ _ h => h) (Or.inl ⟨by rfl, ?_⟩) (by assumption) ?_
          rotate_left
          · (intro w hSw; obtain ⟨z0, z1⟩ := hSw; (go_simp <;> with_reducible rfl))
          try simp only [Act.put, List.setIfInBounds_toArray, List.set_cons_zero, List.set_cons_succ]
          refine wpAnyH_take (i := 16) (oi := { dst := some 34, op := Op.pick (Operand.tmp 21) (Operand.tmp 33) (Operand.const (Value.bool false)), type := 4, pos := _, after := #[{ on := 3, ground := Ground.data }, { on := 15, ground := Ground.data }], guard := none }) (v := ?_) rfl (by kernel_rfl) (by kernel_rfl) (by kernel_rfl) (fun _ _ _ h => h) (Or.inl ⟨by rfl, ?_⟩) (by assumption) ?_
          rotate_left
          · (intro w hSw; obtain ⟨z0, z1⟩ := hSw; (go_simp <;> with_reducible rfl))
          try simp only [Act.put, List.setIfInBounds_toArray, List.set_cons_zero, List.set_cons_succ]
          refine wpAnyH_done (by kernel_rfl) ?_ _
          clear hHeld
          have hown4 := OwnX.quiet hown2 hS
          have hG4 := hG2.trans (GS.of_G hS)
          by_cases hc : cf x y < 0
          · have HF : Hid (insJ (fun x y => decide (cf x y < 0)) i l = insJ (fun x y => decide (cf x y < 0)) j ((l'.set (j + 1) y).set j x)) := Lib.hid (by rw [HDJ.out, if_pos hc])
            have k1 := hcx _ hS
            have k2 := hcy _ hS
            go_upto_region 6 with fail
            have hown5 : OwnIn w4.drew base _ _ := OwnX.drew hown4
            have hG5 := hG4.trans (GS.of_G (G.refl w4 none).drew)
            clear k1 k2 hown4 hG4 hS
            obtain ⟨w5, hw5⟩ : ∃ w5, w4.drew = w5 := ⟨_, rfl⟩
            rw [hw5] at hown5 hG5
            have HSUB3 : Hid (∀ z ∈ (l'.set (j + 1) y).set j x, z ∈ l0) := Lib.hid (fun z hz => by
              rcases List.mem_or_eq_of_mem_set hz with hz | rfl
              · rcases List.mem_or_eq_of_mem_set hz with hz | rfl
                · exact HSUB2.out z hz
                · exact HSUB2.out _ (List.mem_of_getElem? hy)
              · exact HSUB2.out _ (List.mem_of_getElem? hx))
            have hA := soi_set hown5 hl' hx y
            have hy2 : (l'.set (j + 1) y)[j]? = some y := by rw [List.getElem?_set_ne (by omega)]; exact hy
            have hBB := soi_set hA (by rw [List.length_set]; exact hl') hy2 x
            have z0 : w5.cell? ⟨g, j, none⟩ = some (.int .i64 y) := by have := RdR.cell inC_sz (Rd.of_owns hown5) (G.refl _ none) hy 0 (.int .i64 y) rfl; simpa using this
            have z1 : w5.cell? ⟨g, j + 1, none⟩ = some (.int .i64 x) := by have := RdR.cell inC_sz (Rd.of_owns hown5) (G.refl _ none) hx 0 (.int .i64 x) rfl; simpa using this
            have z2 : (w5.setCell ⟨g, j + 1, none⟩ (.int .i64 y)).cell? ⟨g, j, none⟩ = some (.int .i64 y) := by have := RdR.cell inC_sz (Rd.of_owns hA) (G.refl _ none) hy2 0 (.int .i64 y) rfl; simpa using this
            have z3 : w5.frozen? ⟨g, j + 1, none⟩ = false := soi_free hown5 hl' _
            have z4 : (w5.setCell ⟨g, j + 1, none⟩ (.int .i64 y)).frozen? ⟨g, j, none⟩ = false := soi_free hA (by rw [List.length_set]; exact hl') _
            have hG6 := (hG5.trans (GS.of_Gs ((G.refl w5 (some g)).setCell (p := ⟨g, j + 1, none⟩) (.inr rfl) (.int .i64 y)) (show S1 _ g from rfl))).trans (GS.of_Gs ((G.refl _ (some g)).setCell (p := ⟨g, j, none⟩) (.inr rfl) (.int .i64 x)) (show S1 _ g from rfl))
            refine wp_region_held_drew (S := (fun _ : World => True)) (by kernel_rfl) ?_ (fun hHeld => ?_)
            · exact trivial
            rw [hw5]
            clear hw5
            refine wpAnyH_take (i := 0) (oi := { dst := some 37, op := Op.move (Operand.tmp 0), type := 22, pos := _, after := #[], guard := none }) (v := ?_) rfl (by kernel_rfl) (by kernel_rfl) (by kernel_rfl) (fun _ _ _ h => h) (Or.inl ⟨by rfl, ?_⟩) (by assumption) ?_
            rotate_left
            · (intro w hSw; clear hSw; (go_simp <;> with_reducible rfl))
            try simp only [Act.put, List.setIfInBounds_toArray, List.set_cons_zero, List.set_cons_succ]
            refine wpAnyH_take (i := 1) (oi := { dst := some 38, op := Op.move (Operand.tmp 9), type := 3, pos := _, after := #[], guard := none }) (v := ?_) rfl (by kernel_rfl) (by kernel_rfl) (by kernel_rfl) (fun _ _ _ h => h) (Or.inl ⟨by rfl, ?_⟩) (by assumption) ?_
            rotate_left
            · (intro w hSw; clear hSw; (go_simp <;> with_reducible rfl))
            try simp only [Act.put, List.setIfInBounds_toArray, List.set_cons_zero, List.set_cons_succ]
            refine wpAnyH_take (i := 2) (oi := { dst := some 39, op := Op.move (Operand.tmp 0), type := 22, pos := _, after := #[{ on := 15, ground := Ground.gcOnly Departure.lateStores }], guard := none }) (v := ?_) rfl (by kernel_rfl) (by kernel_rfl) (by kernel_rfl) (fun _ _ _ h => h) (Or.inl ⟨by rfl, ?_⟩) (by assumption) ?_
            rotate_left
            · (intro w hSw; clear hSw; (go_simp <;> with_reducible rfl))
            try simp only [Act.put, List.setIfInBounds_toArray, List.set_cons_zero, List.set_cons_succ]
            refine wpAnyH_take (i := 3) (oi := { dst := some 40, op := Op.move (Operand.tmp 9), type := 3, pos := _, after := #[{ on := 15, ground := Ground.gcOnly Departure.lateStores }], guard := none }) (v := ?_) rfl (by kernel_rfl) (by kernel_rfl) (by kernel_rfl) (fun _ _ _ h => h) (Or.inl ⟨by rfl, ?_⟩) (by assumption) ?_
            rotate_left
            · (intro w hSw; clear hSw; (go_simp <;> with_reducible rfl))
            try simp only [Act.put, List.setIfInBounds_toArray, List.set_cons_zero, List.set_cons_succ]
            refine wpAnyH_take (i := 4) (oi := { dst := some 41, op := Op.binOp BinOp.sub 3 (Operand.tmp 40) (Operand.const (Value.int IntKind.i64 1)) 3, type := 3, pos := _, after := #[{ on := 3, ground := Ground.data }, { on := 15, ground := Ground.gcOnly Departure.lateStores }], guard := none }) (v := ?_) rfl (by kernel_rfl) (by kernel_rfl) (by kernel_rfl) (fun _ _ _ h => h) (Or.inl ⟨by rfl, ?_⟩) (by assumption) ?_
            rotate_left
            · (intro w hSw; clear hSw; (go_simp <;> with_reducible rfl))
            try simp only [Act.put, List.setIfInBounds_toArray, List.set_cons_zero, List.set_cons_succ]
            refine wpAnyH_take (i := 5) (oi := { dst := some 42, op := Op.move (Operand.tmp 0), type := 22, pos := _, after := #[], guard := none }) (v := ?_) rfl (by kernel_rfl) (by kernel_rfl) (by kernel_rfl) (fun _ _ _ h => h) (Or.inl ⟨by rfl, ?_⟩) (by assumption) ?_
            rotate_left
            · (intro w hSw; clear hSw; (go_simp <;> with_reducible rfl))
            try simp only [Act.put, List.setIfInBounds_toArray, List.set_cons_zero, List.set_cons_succ]
            refine wpAnyH_take (i := 6) (oi := { dst := some 43, op := Op.move (Operand.tmp 9), type := 3, pos := _, after := #[], guard := none }) (v := ?_) rfl (by kernel_rfl) (by kernel_rfl) (by kernel_rfl) (fun _ _ _ h => h) (Or.inl ⟨by rfl, ?_⟩) (by assumption) ?_
            rotate_left
            · (intro w hSw; clear hSw; (go_simp <;> with_reducible rfl))
            try simp only [Act.put, List.setIfInBounds_toArray, List.set_cons_zero, List.set_cons_succ]
            refine wpAnyH_take (i := 7) (oi := { dst := some 44, op := Op.binOp BinOp.sub 3 (Operand.tmp 43) (Operand.const (Value.int IntKind.i64 1)) 3, type := 3, pos := _, after := #[{ on := 6, ground := Ground.data }], guard := none }) (v := ?_) rfl (by kernel_rfl) (by kernel_rfl) (by kernel_rfl) (fun _ _ _ h => h) (Or.inl ⟨by rfl, ?_⟩) (by assumption) ?_
            rotate_left
            · (intro w hSw; clear hSw; (go_simp <;> with_reducible rfl))
            try simp only [Act.put, List.setIfInBounds_toArray, List.set_cons_zero, List.set_cons_succ]
            refine wpAnyH_take (i := 8) (oi := { dst := some 45, op := Op.indexAddr 22 (Operand.tmp 42) (Operand.tmp 44), type := 0, pos := _, after := #[{ on := 5, ground := Ground.data }, { on := 7, ground := Ground.data }], guard := none }) (v := ?_) rfl (by kernel_rfl) (by kernel_rfl) (by kernel_rfl) (fun _ _ _ h => h) (Or.inl ⟨by rfl, ?_⟩) (by assumption) ?_
            rotate_left
            · (intro w hSw; clear hSw; (go_simp <;> with_reducible rfl))
            try simp only [Act.put, List.setIfInBounds_toArray, List.set_cons_zero, List.set_cons_succ]
            refine wpAnyH_take (i := 10) (oi := { dst := some 47, op := Op.move (Operand.tmp 0), type := 22, pos := _, after := #[], guard := none }) (v := ?_) rfl (by kernel_rfl) (by kernel_rfl) (by kernel_rfl) (fun _ _ _ h => h) (Or.inl ⟨by rfl, ?_⟩) (by assumption) ?_
            rotate_left
            · (intro w hSw; clear hSw; (go_simp <;> with_reducible rfl))
            try simp only [Act.put, List.setIfInBounds_toArray, List.set_cons_zero, List.set_cons_succ]
            refine wpAnyH_take (i := 11) (oi := { dst := some 48, op := Op.move (Operand.tmp 9), type := 3, pos := _, after := #[], guard := none }) (v := ?_) rfl (by kernel_rfl) (by kernel_rfl) (by kernel_rfl) (fun _ _ _ h => h) (Or.inl ⟨by rfl, ?_⟩) (by assumption) ?_
            rotate_left
            · (intro w hSw; clear hSw; (go_simp <;> with_reducible rfl))
            try simp only [Act.put, List.setIfInBounds_toArray, List.set_cons_zero, List.set_cons_succ]
            refine wpAnyH_take (i := 12) (oi := { dst := some 49, op := Op.indexAddr 22 (Operand.tmp 47) (Operand.tmp 48), type := 0, pos := _, after := #[{ on := 10, ground := Ground.data }, { on := 11, ground := Ground.data }], guard := none }) (v := ?_) rfl (by kernel_rfl) (by kernel_rfl) (by kernel_rfl) (fun _ _ _ h => h) (Or.inl ⟨by rfl, ?_⟩) (by assumption) ?_
            rotate_left
            · (intro w hSw; clear hSw; (go_simp <;> with_reducible rfl))
            try simp only [Act.put, List.setIfInBounds_toArray, List.set_cons_zero, List.set_cons_succ]
            refine wpAnyH_ready (rs := [9, 13]) (by kernel_rfl) (by simp) ?_
            refine (AllReadyH.cons (o := { dst := some 46, op := Op.load 3 (Operand.tmp 45), type := 3, pos := _, after := #[{ on := 8, ground := Ground.data }], guard := none }) rfl (fun K hK => ?_) (AllReadyH.cons (o := { dst := some 50, op := Op.load 3 (Operand.tmp 49), type := 3, pos := _, after := #[{ on := 12, ground := Ground.data }], guard := none }) rfl (fun K hK => ?_) AllReadyH.nil))
            · go_simp
              refine hK.out _ _ ?_ (fun hHeld => ?_)
              · exact trivial
              clear hK K
              try simp only [Act.put, List.setIfInBounds_toArray, List.set_cons_zero, List.set_cons_succ]
              refine wpAnyH_ready (rs := [13]) (by kernel_rfl) (by simp) ?_
              refine (AllReadyH.cons (o := { dst := some 50, op := Op.load 3 (Operand.tmp 49), type := 3, pos := _, after := #[{ on := 12, ground := Ground.data }], guard := none }) rfl (fun K hK => ?_) AllReadyH.nil)
              go_simp
              refine hK.out _ _ ?_ (fun hHeld => ?_)
              · exact trivial
              clear hK K
              try simp only [Act.put, List.setIfInBounds_toArray, List.set_cons_zero, List.set_cons_succ]
              refine wpAnyH_take (i := 14) (oi := { dst := some 51, op := Op.indexAddr 22 (Operand.tmp 37) (Operand.tmp 38), type := 0, pos := _, after := #[{ on := 0, ground := Ground.data }, { on := 1, ground := Ground.data }, { on := 0, ground := Ground.phase }, { on := 1, ground := Ground.phase }, { on := 2, ground := Ground.textOnly Departure.lateStores }, { on := 3, ground := Ground.textOnly Departure.lateStores }, { on := 4, ground := Ground.textOnly Departure.lateStores }, { on := 5, ground := Ground.phase }, { on := 6, ground := Ground.phase }, { on := 7, ground := Ground.phase }, { on := 8, ground := Ground.phase }, { on := 9, ground := Ground.phase }, { on := 10, ground := Ground.textOnly Departure.lateStores }, { on := 11, ground := Ground.textOnly Departure.lateStores }, { on := 12, ground := Ground.textOnly Departure.lateStoresUnsure }, { on := 13, ground := Ground.phase }], guard := none }) (v := ?_) rfl (by kernel_rfl) (by kernel_rfl) (by kernel_rfl) (fun _ _ _ h => h) (Or.inl ⟨by rfl, ?_⟩) (by assumption) ?_
              rotate_left
              · (intro w hSw; clear hSw; (go_simp <;> with_reducible rfl))
              try simp only [Act.put, List.setIfInBounds_toArray, List.set_cons_zero, List.set_cons_succ]
              refine wpAnyH_ready (rs := [15]) (by kernel_rfl) (by simp) ?_
              refine (AllReadyH.cons (o := { dst := none, op := Op.store 3 (Operand.tmp 51) (Operand.tmp 46), type := 0, pos := _, after := #[{ on := 14, ground := Ground.data }, { on := 9, ground := Ground.data }, { on := 0, ground := Ground.phase }, { on := 1, ground := Ground.phase }, { on := 2, ground := Ground.textOnly Departure.lateStores }, { on := 3, ground := Ground.textOnly Departure.lateStores }, { on := 4, ground := Ground.textOnly Departure.lateStores }, { on := 5, ground := Ground.phase }, { on := 6, ground := Ground.phase }, { on := 7, ground := Ground.phase }, { on := 8, ground := Ground.phase }, { on := 9, ground := Ground.phase }, { on := 10, ground := Ground.textOnly Departure.lateStores }, { on := 11, ground := Ground.textOnly Departure.lateStores }, { on := 12, ground := Ground.textOnly Departure.lateStoresUnsure }, { on := 13, ground := Ground.phase }], guard := none }) rfl (fun K hK => ?_) AllReadyH.nil)
              go_simp
              refine hK.out _ _ ?_ (fun hHeld => ?_)
              · exact trivial
              clear hK K
              try simp only [Act.put, List.setIfInBounds_toArray, List.set_cons_zero, List.set_cons_succ]
              refine wpAnyH_take (i := 16) (oi := { dst := some 52, op := Op.indexAddr 22 (Operand.tmp 39) (Operand.tmp 41), type := 0, pos := _, after := #[{ on := 2, ground := Ground.data }, { on := 4, ground := Ground.data }, { on := 0, ground := Ground.phase }, { on := 1, ground := Ground.phase }, { on := 2, ground := Ground.phase }, { on := 3, ground := Ground.phase }, { on := 4, ground := Ground.phase }, { on := 5, ground := Ground.phase }, { on := 6, ground := Ground.phase }, { on := 7, ground := Ground.phase }, { on := 8, ground := Ground.phase }, { on := 9, ground := Ground.phase }, { on := 10, ground := Ground.phase }, { on := 11, ground := Ground.phase }, { on := 12, ground := Ground.phase }, { on := 13, ground := Ground.phase }, { on := 14, ground := Ground.phase }, { on := 15, ground := Ground.phase }], guard := none }) (v := ?_) rfl (by kernel_rfl) (by kernel_rfl) (by kernel_rfl) (fun _ _ _ h => h) (Or.inl ⟨by rfl, ?_⟩) (by assumption) ?_
              rotate_left
              · (intro w hSw; clear hSw; (go_simp <;> with_reducible rfl))
              try simp only [Act.put, List.setIfInBounds_toArray, List.set_cons_zero, List.set_cons_succ]
              refine wpAnyH_ready (rs := [17]) (by kernel_rfl) (by simp) ?_
              refine (AllReadyH.cons (o := { dst := none, op := Op.store 3 (Operand.tmp 52) (Operand.tmp 50), type := 0, pos := _, after := #[{ on := 16, ground := Ground.data }, { on := 13, ground := Ground.data }, { on := 15, ground := Ground.chain }, { on := 0, ground := Ground.phase }, { on := 1, ground := Ground.phase }, { on := 2, ground := Ground.phase }, { on := 3, ground := Ground.phase }, { on := 4, ground := Ground.phase }, { on := 5, ground := Ground.phase }, { on := 6, ground := Ground.phase }, { on := 7, ground := Ground.phase }, { on := 8, ground := Ground.phase }, { on := 9, ground := Ground.phase }, { on := 10, ground := Ground.phase }, { on := 11, ground := Ground.phase }, { on := 12, ground := Ground.phase }, { on := 13, ground := Ground.phase }, { on := 14, ground := Ground.phase }, { on := 15, ground := Ground.phase }], guard := none }) rfl (fun K hK => ?_) AllReadyH.nil)
              go_simp
              refine hK.out _ _ ?_ (fun hHeld => ?_)
              · exact trivial
              clear hK K
              try simp only [Act.put, List.setIfInBounds_toArray, List.set_cons_zero, List.set_cons_succ]
              refine wpAnyH_done (by kernel_rfl) ?_ _
              clear hHeld
              go_wp2_with fail
              go_roundw
              case rel => exact ⟨j, (l'.set (j + 1) y).set j x, by omega, by go_num, HF.out, by simp [hl'], HSUB3.out, hBB, hG6⟩
              case measure => simp [intOf]
            · go_simp
              refine hK.out _ _ ?_ (fun hHeld => ?_)
              · exact trivial
              clear hK K
              try simp only [Act.put, List.setIfInBounds_toArray, List.set_cons_zero, List.set_cons_succ]
              refine wpAnyH_ready (rs := [9]) (by kernel_rfl) (by simp) ?_
              refine (AllReadyH.cons (o := { dst := some 46, op := Op.load 3 (Operand.tmp 45), type := 3, pos := _, after := #[{ on := 8, ground := Ground.data }], guard := none }) rfl (fun K hK => ?_) AllReadyH.nil)
              go_simp
              refine hK.out _ _ ?_ (fun hHeld => ?_)
              · exact trivial
              clear hK K
              try simp only [Act.put, List.setIfInBounds_toArray, List.set_cons_zero, List.set_cons_succ]
              refine wpAnyH_take (i := 14) (oi := { dst := some 51, op := Op.indexAddr 22 (Operand.tmp 37) (Operand.tmp 38), type := 0, pos := _, after := #[{ on := 0, ground := Ground.data }, { on := 1, ground := Ground.data }, { on := 0, ground := Ground.phase }, { on := 1, ground := Ground.phase }, { on := 2, ground := Ground.textOnly Departure.lateStores }, { on := 3, ground := Ground.textOnly Departure.lateStores }, { on := 4, ground := Ground.textOnly Departure.lateStores }, { on := 5, ground := Ground.phase }, { on := 6, ground := Ground.phase }, { on := 7, ground := Ground.phase }, { on := 8, ground := Ground.phase }, { on := 9, ground := Ground.phase }, { on := 10, ground := Ground.textOnly Departure.lateStores }, { on := 11, ground := Ground.textOnly Departure.lateStores }, { on := 12, ground := Ground.textOnly Departure.lateStoresUnsure }, { on := 13, ground := Ground.phase }], guard := none }) (v := ?_) rfl (by kernel_rfl) (by kernel_rfl) (by kernel_rfl) (fun _ _ _ h => h) (Or.inl ⟨by rfl, ?_⟩) (by assumption) ?_
              rotate_left
              · (intro w hSw; clear hSw; (go_simp <;> with_reducible rfl))
              try simp only [Act.put, List.setIfInBounds_toArray, List.set_cons_zero, List.set_cons_succ]
              refine wpAnyH_ready (rs := [15]) (by kernel_rfl) (by simp) ?_
              refine (AllReadyH.cons (o := { dst := none, op := Op.store 3 (Operand.tmp 51) (Operand.tmp 46), type := 0, pos := _, after := #[{ on := 14, ground := Ground.data }, { on := 9, ground := Ground.data }, { on := 0, ground := Ground.phase }, { on := 1, ground := Ground.phase }, { on := 2, ground := Ground.textOnly Departure.lateStores }, { on := 3, ground := Ground.textOnly Departure.lateStores }, { on := 4, ground := Ground.textOnly Departure.lateStores }, { on := 5, ground := Ground.phase }, { on := 6, ground := Ground.phase }, { on := 7, ground := Ground.phase }, { on := 8, ground := Ground.phase }, { on := 9, ground := Ground.phase }, { on := 10, ground := Ground.textOnly Departure.lateStores }, { on := 11, ground := Ground.textOnly Departure.lateStores }, { on := 12, ground := Ground.textOnly Departure.lateStoresUnsure }, { on := 13, ground := Ground.phase }], guard := none }) rfl (fun K hK => ?_) AllReadyH.nil)
              go_simp
              refine hK.out _ _ ?_ (fun hHeld => ?_)
              · exact trivial
              clear hK K
              try simp only [Act.put, List.setIfInBounds_toArray, List.set_cons_zero, List.set_cons_succ]
              refine wpAnyH_take (i := 16) (oi := { dst := some 52, op := Op.indexAddr 22 (Operand.tmp 39) (Operand.tmp 41), type := 0, pos := _, after := #[{ on := 2, ground := Ground.data }, { on := 4, ground := Ground.data }, { on := 0, ground := Ground.phase }, { on := 1, ground := Ground.phase }, { on := 2, ground := Ground.phase }, { on := 3, ground := Ground.phase }, { on := 4, ground := Ground.phase }, { on := 5, ground := Ground.phase }, { on := 6, ground := Ground.phase }, { on := 7, ground := Ground.phase }, { on := 8, ground := Ground.phase }, { on := 9, ground := Ground.phase }, { on := 10, ground := Ground.phase }, { on := 11, ground := Ground.phase }, { on := 12, ground := Ground.phase }, { on := 13, ground := Ground.phase }, { on := 14, ground := Ground.phase }, { on := 15, ground := Ground.phase }], guard := none }) (v := ?_) rfl (by kernel_rfl) (by kernel_rfl) (by kernel_rfl) (fun _ _ _ h => h) (Or.inl ⟨by rfl, ?_⟩) (by assumption) ?_
              rotate_left
              · (intro w hSw; clear hSw; (go_simp <;> with_reducible rfl))
              try simp only [Act.put, List.setIfInBounds_toArray, List.set_cons_zero, List.set_cons_succ]
              refine wpAnyH_ready (rs := [17]) (by kernel_rfl) (by simp) ?_
              refine (AllReadyH.cons (o := { dst := none, op := Op.store 3 (Operand.tmp 52) (Operand.tmp 50), type := 0, pos := _, after := #[{ on := 16, ground := Ground.data }, { on := 13, ground := Ground.data }, { on := 15, ground := Ground.chain }, { on := 0, ground := Ground.phase }, { on := 1, ground := Ground.phase }, { on := 2, ground := Ground.phase }, { on := 3, ground := Ground.phase }, { on := 4, ground := Ground.phase }, { on := 5, ground := Ground.phase }, { on := 6, ground := Ground.phase }, { on := 7, ground := Ground.phase }, { on := 8, ground := Ground.phase }, { on := 9, ground := Ground.phase }, { on := 10, ground := Ground.phase }, { on := 11, ground := Ground.phase }, { on := 12, ground := Ground.phase }, { on := 13, ground := Ground.phase }, { on := 14, ground := Ground.phase }, { on := 15, ground := Ground.phase }], guard := none }) rfl (fun K hK => ?_) AllReadyH.nil)
              go_simp
              refine hK.out _ _ ?_ (fun hHeld => ?_)
              · exact trivial
              clear hK K
              try simp only [Act.put, List.setIfInBounds_toArray, List.set_cons_zero, List.set_cons_succ]
              refine wpAnyH_done (by kernel_rfl) ?_ _
              clear hHeld
              go_wp2_with fail
              go_roundw
              case rel => exact ⟨j, (l'.set (j + 1) y).set j x, by omega, by go_num, HF.out, by simp [hl'], HSUB3.out, hBB, hG6⟩
              case measure => simp [intOf]
          · have HF : Hid (insJ (fun x y => decide (cf x y < 0)) i l = l') := Lib.hid (by rw [HDJ.out, if_neg hc])
            go_wp2_with fail
            go_roundw
            case rel => exact ⟨i + 1, l', by omega, by omega, by go_num, by rw [HD.out, HF.out], hl', HSUB2.out, hown4, hG4⟩
            case measure => have := HI.out; simp [intOf]; omega
    · have hfin : isrt (fun x y => decide (cf x y < 0)) l0 = l := by rw [HE.out, show l0.length - i = 0 by omega, isF]
      go_wp2_with fail
      refine bodyPost_end (results_none rfl _ _ _) rfl ?_
      exact ⟨rfl, by rw [hfin]; exact hownr, hGr⟩
set_option maxRecDepth 100000 in
set_option maxHeartbeats 4000000 in
theorem stable_c (F : FuncId) (caps : Array Value) (cf : Int → Int → Int) (v : Value) (l0 : List Int) (base : Nat) (w : World) (hcf : ∀ (args : Array Value) (w : World), (callFunc F args).run Try.prog w = .ok (.enter F args) w)
    (hal : ∀ (x y : Int) (w' : World), x ∈ l0 → y ∈ l0 → GS (S1 v) w w' → Calls Try.prog F (#[.int .i64 x, .int .i64 y] ++ caps) w' fun e w'' => e = .returned (.int .i64 (cf x y)) ∧ G w' w'' none)
    (hown : OwnIn w base v l0) (hn : l0.length < 20) :
    Calls Try.prog 43 #[v, .int .i64 l0.length, .func (.func F) #[] caps] w fun e w' => e = .returned (.tuple #[]) ∧ OwnIn w' base v (isrt (fun x y => decide (cf x y < 0)) l0) ∧ GS (S1 v) w w' := by
  have CI := Lib.hid (insSort_c F caps cf v l0 base w hcf hal hown (by omega))
  have h1 : ¬ (20 : Int) ≤ (l0.length : Int) := by omega
  have h2 : ¬ (20 : Int) < (l0.length : Int) := by omega
  obtain ⟨a, cap, rfl, hcap, hm⟩ := RdR.form (c := inC) (Rd.of_owns hown)
  clear hal hown hcf
  go_enter Try.func43, Try.ntmps43
  go_wp2_with fail
  go_loopw [7, 8] (fun s7 s8 wr => s7 = .int .i64 0 ∧ s8 = .int .i64 20 ∧ wr = w) (fun _ _ _ => 0)
  case atStart => exact ⟨rfl, rfl, rfl⟩
  case round =>
    obtain ⟨rfl, rfl, rfl⟩ := hrel
    go_wp2_with fail
    refine CI.out.mono ?_; rintro e w2 ⟨rfl, hown2, hG2⟩
    go_wp2_with fail
    go_loopw [6, 7, 8, 9] (fun s6 _ _ _ wr => s6 = .int .i64 20 ∧ wr = w2) (fun _ _ _ _ _ => 0)
    case atStart => exact ⟨rfl, rfl⟩
    case round =>
      obtain ⟨rfl, rfl⟩ := hrel
      go_wp2_with fail
      refine bodyPost_end (results_none rfl _ _ _) rfl ?_
      exact ⟨rfl, hown2, hG2⟩
set_option maxRecDepth 100000 in
set_option maxHeartbeats 4000000 in
theorem sortStable_c (F : FuncId) (caps : Array Value) (cf : Int → Int → Int) (v : Value) (l0 : List Int) (base : Nat) (w : World) (hcf : ∀ (args : Array Value) (w : World), (callFunc F args).run Try.prog w = .ok (.enter F args) w)
    (hal : ∀ (x y : Int) (w' : World), x ∈ l0 → y ∈ l0 → GS (S1 v) w w' → Calls Try.prog F (#[.int .i64 x, .int .i64 y] ++ caps) w' fun e w'' => e = .returned (.int .i64 (cf x y)) ∧ G w' w'' none)
    (hown : OwnIn w base v l0) (hn : l0.length < 20) :
    Calls Try.prog 26 #[v, .func (.func F) #[] caps] w fun e w' => e = .returned (.tuple #[]) ∧ OwnIn w' base v (isrt (fun x y => decide (cf x y < 0)) l0) ∧ GS (S1 v) w w' := by
  have CI := Lib.hid (stable_c F caps cf v l0 base w hcf hal hown hn)
  obtain ⟨a, cap, rfl, hcap, hm⟩ := RdR.form (c := inC) (Rd.of_owns hown)
  clear hal hown hcf
  go_enter Try.func26, Try.ntmps26
  go_wp2_with fail
  refine CI.out.mono ?_; rintro e w2 ⟨rfl, hown2, hG2⟩
  go_wp2_with fail
  refine bodyPost_end (results_none rfl _ _ _) rfl ?_
  exact ⟨rfl, hown2, hG2⟩
end Go.Proofs.Ytkpmcakppiinlaa

/- Cents that are divided: mark.checkSplit, rentref2.SplitFault, cmp.Compare of ints. -/
namespace Go.Proofs.Ytkpmcakppiinlaa
open Go.RowKit

def spA (ws : List Int) : Bool := ws.all fun n => inB n 0 5761440
def spE (c : Int) (ws : List Int) : Int := if inB c 0 1000000000 = false then 1 else if 50 < ws.length then 2 else if spA ws = false then 1 else if ws.sum = 0 then 8 else 0
def spS (c : Int) (ws : List Int) : Int := if spE c ws = 0 then ws.sum else 0
abbrev RdI (w : World) (v : Value) (l : List Int) : Prop := RdR w 1 inC v l
theorem sum_take_succ (l : List Int) (k : Nat) (p : Int) (hp : l[k]? = some p) : (l.take (k + 1)).sum = (l.take k).sum + p := by
  rw [List.take_add_one, hp, List.sum_append]; simp
theorem spA_bnd {l : List Int} (h : ∀ n ∈ l, inB n 0 5761440 = true) : 0 ≤ l.sum ∧ l.sum ≤ 5761440 * (l.length : Int) := by
  induction l with
  | nil => simp
  | cons a r ih =>
    have h1 := h a List.mem_cons_self
    have h2 := ih (fun n hn => h n (List.mem_cons_of_mem _ hn))
    unfold inB at h1
    simp at h1
    simp only [List.sum_cons, List.length_cons]
    push_cast
    omega
theorem spA_false {l : List Int} {k : Nat} {p : Int} (hp : l[k]? = some p) (h : inB p 0 5761440 = false) : spA l = false := by
  unfold spA
  rw [Bool.eq_false_iff]
  intro q
  have := List.all_eq_true.1 q p (List.mem_of_getElem? hp)
  rw [h] at this
  cases this
def CspRel (w : World) (ws : List Int) (s6 i : Value) (wr : World) : Prop :=
  ∃ k : Nat, k ≤ ws.length ∧ i = .int .i64 k ∧ s6 = .int .i64 (ws.take k).sum ∧ (∀ n ∈ ws.take k, inB n 0 5761440 = true) ∧ G w wr none
theorem take_mem {l : List Int} {k : Nat} {p : Int} (hp : l[k]? = some p) (h : ∀ n ∈ l.take k, inB n 0 5761440 = true) (hb : inB p 0 5761440 = true) : ∀ n ∈ l.take (k + 1), inB n 0 5761440 = true := fun n hn => by
  rw [List.take_add_one, hp] at hn
  rcases List.mem_append.1 hn with hn | hn
  · exact h n hn
  · simp at hn; rw [hn]; exact hb
set_option maxRecDepth 100000 in
set_option maxHeartbeats 2000000 in
theorem isCents_c (n : Int) (w : World) : Calls Try.prog 42 #[.int .i64 n] w fun e w' => e = .returned (.bool (inB n 0 1000000000)) ∧ G w w' none := by
  go_enter Try.func42, Try.ntmps42
  go_wp2_with fail
  refine (within_c _ _ _ _).mono ?_; rintro e w' ⟨rfl, rfl⟩
  go_wp2_with fail
  go_ret
  exact ⟨rfl, G.refl _ _⟩
set_option maxRecDepth 100000 in
set_option maxHeartbeats 4000000 in
theorem checkSplit_c (c : Int) (v : Value) (ws : List Int) (w : World) (hr : RdI w v ws) (hn : ws.length ≤ 1000) :
    Calls Try.prog 24 #[.int .i64 c, v] w fun e w' => e = .returned (.tuple #[.int .i64 (spS c ws), .int .i64 (spE c ws)]) ∧ G w w' none := by
  have HR := Lib.hid hr
  obtain ⟨a, cap, rfl, hcap, hm⟩ := RdR.form hr
  clear hr
  have HE := Lib.hid (show spE c ws = if inB c 0 1000000000 = false then 1 else if 50 < ws.length then 2 else if spA ws = false then 1 else if ws.sum = 0 then 8 else 0 from rfl)
  have HS := Lib.hid (show spS c ws = if spE c ws = 0 then ws.sum else 0 from rfl)
  generalize spS c ws = S at HS ⊢
  generalize spE c ws = E at HE HS ⊢
  go_enter Try.func24, Try.ntmps24
  go_wp2_with fail
  refine (isCents_c _ _).mono ?_; rintro e w1 ⟨rfl, hG1⟩
  cases k1 : inB c 0 1000000000 with
  | false =>
    have hE : E = 1 := by rw [HE.out, if_pos k1]
    have hS : S = 0 := by rw [HS.out, hE]; rfl
    subst hE
    subst hS
    clear HE HS k1
    go_wp2_with fail
    go_ret2
    exact ⟨rfl, hG1⟩
  | true =>
    have HE1 : Hid (E = if 50 < ws.length then 2 else if spA ws = false then 1 else if ws.sum = 0 then 8 else 0) := Lib.hid (by rw [HE.out, if_neg (by simp [k1])])
    clear HE k1
    by_cases k2 : 50 < ws.length
    · have hE : E = 2 := by rw [HE1.out, if_pos k2]
      have hS : S = 0 := by rw [HS.out, hE]; rfl
      subst hE
      subst hS
      have k2' : (50 : Int) < (ws.length : Int) := by omega
      clear HE1 HS k2
      go_wp2_with fail
      go_ret2
      exact ⟨rfl, hG1⟩
    · have HE2 : Hid (E = if spA ws = false then 1 else if ws.sum = 0 then 8 else 0) := Lib.hid (by rw [HE1.out, if_neg k2])
      have k2' : ¬ (50 : Int) < (ws.length : Int) := by omega
      clear HE1
      go_wp2_with fail
      go_loopw [6, 17] (CspRel w ws) (fun _ i _ => ws.length - (intOf i).toNat)
      case atStart => exact ⟨0, by omega, rfl, rfl, fun n hn => by simp at hn, hG1⟩
      case round =>
        clear hG1
        obtain ⟨k, hk, rfl, rfl, hall, hG⟩ := hrel
        by_cases hlt : k < ws.length
        · obtain ⟨p, hp⟩ : ∃ p, ws[k]? = some p := ⟨_, List.getElem?_eq_getElem hlt⟩
          obtain ⟨bb, bo, rfl, -, -⟩ := RdR.elem inC_sz HR.out hG hp
          have hc := RdR.cell inC_sz HR.out hG hp 0 (.int .i64 p) rfl
          simp only [Nat.add_zero, Nat.mul_one] at hc
          have HP := Lib.hid hp
          have HK := Lib.hid hlt
          have hsb := spA_bnd hall
          have hlen : ((ws.take k).length : Int) ≤ 1000 := by rw [List.length_take]; omega
          clear hp
          go_wp2_with fail
          refine (within_c _ _ _ _).mono ?_; rintro e w' ⟨rfl, rfl⟩
          cases hb : inB p 0 5761440 with
          | false =>
            have hE : E = 1 := by rw [HE2.out, if_pos (spA_false HP.out hb)]
            have hS : S = 0 := by rw [HS.out, hE]; rfl
            subst hE
            subst hS
            clear HE2 HS hb
            go_wp2_with fail
            go_ret2
            exact ⟨rfl, hG⟩
          | true =>
            have hpb : 0 ≤ p ∧ p ≤ 5761440 := by unfold inB at hb; simpa using hb
            have hw : IntKind.i64.wrap ((ws.take k).sum + p) = (ws.take k).sum + p := by rw [IntKind.wrap_i64]; omega
            have HT := Lib.hid (sum_take_succ ws k p HP.out)
            have HA := Lib.hid (take_mem HP.out hall hb)
            generalize (ws.take k).sum = SK at hw HT hsb ⊢
            clear hb hsb hlen
            go_wp2_with fail
            go_roundw
            case rel => exact ⟨k + 1, by omega, by go_num, by rw [HT.out], HA.out, hG⟩
            case measure => have := HK.out; simp [intOf]; omega
        · obtain rfl : k = ws.length := by omega
          rw [List.take_length] at hall ⊢
          have ha : spA ws = true := List.all_eq_true.2 hall
          have HE3 : Hid (E = if ws.sum = 0 then 8 else 0) := Lib.hid (by rw [HE2.out, if_neg (by simp [ha])])
          clear HE2 ha hall
          generalize ws.sum = SM at HE3 HS ⊢
          by_cases h0 : SM = 0
          · have hE : E = 8 := by rw [HE3.out, if_pos h0]
            have hS : S = 0 := by rw [HS.out, hE]; rfl
            subst hE
            subst hS
            subst h0
            clear HE3 HS
            go_wp2_with fail
            go_ret2
            exact ⟨rfl, hG⟩
          · have hE : E = 0 := by rw [HE3.out, if_neg h0]
            have hS : S = SM := by rw [HS.out, if_pos hE]
            have h0' : (SM == 0) = false := by simpa using h0
            subst hE
            subst hS
            clear HE3 HS h0
            go_wp2_with fail
            go_ret2
            exact ⟨rfl, hG⟩
/-- What cmp.Compare returns. -/
def cpI (a b : Int) : Int := if a < b then -1 else if b < a then 1 else 0
set_option maxRecDepth 100000 in
set_option maxHeartbeats 2000000 in
theorem isNaNi_c (n : Int) (w : World) : Calls Try.prog 44 #[.int .i64 n] w fun e w' => e = .returned (.bool false) ∧ w = w' := by
  have h : (n != n) = false := by simp
  go_enter Try.func44, Try.ntmps44
  go_wp2_with fail
  go_ret
  exact ⟨rfl, rfl⟩
set_option maxRecDepth 100000 in
set_option maxHeartbeats 2000000 in
theorem compareI_c (a b : Int) (w : World) : Calls Try.prog 28 #[.int .i64 a, .int .i64 b] w fun e w' => e = .returned (.int .i64 (cpI a b)) ∧ w = w' := by
  obtain ⟨R, hR⟩ : ∃ R, cpI a b = R := ⟨_, rfl⟩
  have HR : Hid (R = if a < b then -1 else if b < a then 1 else 0) := Lib.hid (by rw [← hR]; rfl)
  rw [hR]
  clear hR
  go_enter Try.func28, Try.ntmps28
  go_wp2_with fail
  refine (isNaNi_c _ _).mono ?_; rintro e w' ⟨rfl, rfl⟩
  go_wp2_with fail
  refine (isNaNi_c _ _).mono ?_; rintro e w' ⟨rfl, rfl⟩
  by_cases h1 : a < b
  · obtain rfl : R = -1 := by rw [HR.out, if_pos h1]
    clear HR
    go_wp2_with fail
    go_ret
    exact ⟨rfl, rfl⟩
  · by_cases h2 : b < a
    · obtain rfl : R = 1 := by rw [HR.out, if_neg h1, if_pos h2]
      clear HR
      go_wp2_with fail
      go_ret
      exact ⟨rfl, rfl⟩
    · obtain rfl : R = 0 := by rw [HR.out, if_neg h1, if_neg h2]
      clear HR
      go_wp2_with fail
      go_ret
      exact ⟨rfl, rfl⟩
end Go.Proofs.Ytkpmcakppiinlaa

/- What was picked; a block as a row; 'when' at literals. -/
namespace Go.Proofs.Ytkpmcakppiinlaa
open Go.RowKit

theorem small_of {s : ByteArray} (h : s.size ≤ 100) : Small s := by unfold Small; omega
theorem bnd_pick {zs : List Int} {r : Int} (h : r ∈ zs) (hz : zs.all (fun z => decide (-1099511627776 ≤ z ∧ z ≤ 1099511627776)) = true) : bnd r := by
  unfold bnd
  exact of_decide_eq_true (List.all_eq_true.1 hz r h)
theorem small_pick {zs : List ByteArray} {r : ByteArray} (h : r ∈ zs) (hz : zs.all (fun z => decide (z.size ≤ 100)) = true) : Small r := small_of (of_decide_eq_true (List.all_eq_true.1 hz r h))
theorem Bk.rd {w : World} {g : Nat} {T : TypeId} {cs : Array Value} (h : Bk w g T cs) (z n : Nat) (hc : cs.size = n * z) (hn : n ≤ 1000) : Rd w z (.slice (some ⟨g, 0, none⟩) n n) n cs.toList := by
  refine ⟨_, n, rfl, Nat.le_refl _, by unfold maxLen; omega, by simpa using hc, (fun e => by cases e), fun b hb => ?_⟩
  obtain rfl := Option.some.inj hb
  refine ⟨rfl, h.lt, fun j u hj => ?_⟩
  rw [Nat.zero_add, h.cell]
  simpa using hj
end Go.Proofs.Ytkpmcakppiinlaa

/- shift.Plan at one road, its parts: the step of a trail, the trails. Written by genpla.py. -/
namespace Go.Proofs.Ytkpmcakppiinlaa
open Go.RowKit

/-- A lane: from, to, what a car costs. -/
abbrev Ln := Int × Int × Int
def lnC (x : Ln) : Array Value := #[.int .i64 x.1, .int .i64 x.2.1, .int .i64 x.2.2]
theorem lnC_sz (x : Ln) : (lnC x).size = 3 := rfl
theorem ln_info (x : Ln) : (Try.prog.info? 70).map (·.size) = some (lnC x).size := (by kernel_rfl : (Try.prog.info? 70).map (·.size) = some 3)
/-- A trail: is it there, is it begun, what it costs, its last lane. -/
abbrev Tl := Bool × Bool × Int × Int
def tlC (x : Tl) : Array Value := #[.bool x.1, .bool x.2.1, .int .i64 x.2.2.1, .int .i64 x.2.2.2]
theorem tlC_sz (x : Tl) : (tlC x).size = 4 := rfl
theorem tl_info (x : Tl) : (Try.prog.info? 106).map (·.size) = some (tlC x).size := (by kernel_rfl : (Try.prog.info? 106).map (·.size) = some 4)

/-- A step over the one lane, the first time. -/
theorem step1_c (pv pa g : Nat) (w w0 : World) (hv : Bk w pv 103 #[.slice (some ⟨g, 0, none⟩) 2 2]) (ha : Bk w pa 4 #[.bool false])
    (hB : Bk w g 106 #[.bool true, .bool true, .int .i64 0, .int .i64 0, .bool false, .bool false, .int .i64 0, .int .i64 0]) (hG : G w0 w none) (h1 : w0.heap.size ≤ g) (h2 : w0.heap.size ≤ pa) (hpg : pv ≠ g) (hpa : pa ≠ g) (hpp : pv ≠ pa) :
    Calls Try.prog 67 #[.int .i64 0, .int .i64 1, .int .i64 4, .int .i64 0, .pointer (some ⟨pv, 0, none⟩), .pointer (some ⟨pa, 0, none⟩)] w fun e w' => e = .returned (.tuple #[]) ∧
      Bk w' pv 103 #[.slice (some ⟨g, 0, none⟩) 2 2] ∧ Bk w' pa 4 #[.bool true] ∧ Bk w' g 106 #[.bool true, .bool true, .int .i64 0, .int .i64 0, .bool true, .bool false, .int .i64 4, .int .i64 0] ∧ G w0 w' none := by
  have a0 : w.cell? ⟨pv, 0, none⟩ = some (.slice (some ⟨g, 0, none⟩) 2 2) := hv.cell 0
  have b2 : w.cell? ⟨g, 2, none⟩ = some (.int .i64 0) := hB.cell 2
  go_enter Try.func67, Try.ntmps67
  go_upto_region 1 with fail
  have hv1 := hv.alloc (.cells #[.bool true, .bool false, .int .i64 4, .int .i64 0] 106)
  have ha1 := ha.alloc (.cells #[.bool true, .bool false, .int .i64 4, .int .i64 0] 106)
  have hB1 := hB.alloc (.cells #[.bool true, .bool false, .int .i64 4, .int .i64 0] 106)
  have hN1 := Bk.new w 106 #[.bool true, .bool false, .int .i64 4, .int .i64 0]
  have hG1 := hG.alloc (.cells #[.bool true, .bool false, .int .i64 4, .int .i64 0] 106)
  clear hv ha hB hG a0 b2
  generalize w.alloc (.cells #[.bool true, .bool false, .int .i64 4, .int .i64 0] 106) = w1 at hv1 ha1 hB1 hN1 hG1 ⊢
  generalize w.heap.size = n at hN1 ⊢
  have a0 : w1.cell? ⟨pv, 0, none⟩ = some (.slice (some ⟨g, 0, none⟩) 2 2) := hv1.cell 0
  have b0 : w1.cell? ⟨g, 0, none⟩ = some (.bool true) := hB1.cell 0
  have b4 : w1.cell? ⟨g, 4, none⟩ = some (.bool false) := hB1.cell 4
  go_quiet (fail)
  replace hv1 := hv1.drewN nq
  replace ha1 := ha1.drewN nq
  replace hB1 := hB1.drewN nq
  replace hN1 := hN1.drewN nq
  replace hG1 := hG1.drewN nq
  clear a0 b0 b4
  generalize w1.drewN nq = w2 at hv1 ha1 hB1 hN1 hG1 ⊢
  have a0 : w2.cell? ⟨pv, 0, none⟩ = some (.slice (some ⟨g, 0, none⟩) 2 2) := hv1.cell 0
  have n0 : w2.cell? ⟨n, 0, none⟩ = some (.bool true) := hN1.cell 0
  have n1 : w2.cell? ⟨n, 1, none⟩ = some (.bool false) := hN1.cell 1
  have n2 : w2.cell? ⟨n, 2, none⟩ = some (.int .i64 4) := hN1.cell 2
  have n3 : w2.cell? ⟨n, 3, none⟩ = some (.int .i64 0) := hN1.cell 3
  have b4 : w2.cell? ⟨g, 4, none⟩ = some (.bool false) := hB1.cell 4
  have f4 : w2.frozen? ⟨g, 4, none⟩ = false := hB1.free 4
  have b5 : w2.cell? ⟨g, 5, none⟩ = some (.bool false) := hB1.cell 5
  have f5 : w2.frozen? ⟨g, 5, none⟩ = false := hB1.free 5
  have b6 : w2.cell? ⟨g, 6, none⟩ = some (.int .i64 0) := hB1.cell 6
  have f6 : w2.frozen? ⟨g, 6, none⟩ = false := hB1.free 6
  have b7 : w2.cell? ⟨g, 7, none⟩ = some (.int .i64 0) := hB1.cell 7
  have f7 : w2.frozen? ⟨g, 7, none⟩ = false := hB1.free 7
  have p0 : w2.cell? ⟨pa, 0, none⟩ = some (.bool false) := ha1.cell 0
  have pf : w2.frozen? ⟨pa, 0, none⟩ = false := ha1.free 0
  have hpga := hpa.symm
  go_wp2_with fail
  go_end0
  exact ⟨rfl, ((((hv1.far (p := ⟨g, 4, none⟩) hpg _).far (p := ⟨g, 5, none⟩) hpg _).far (p := ⟨g, 6, none⟩) hpg _).far (p := ⟨g, 7, none⟩) hpg _).far (p := ⟨pa, 0, none⟩) hpp _, ((((ha1.far (p := ⟨g, 4, none⟩) hpa _).far (p := ⟨g, 5, none⟩) hpa _).far (p := ⟨g, 6, none⟩) hpa _).far (p := ⟨g, 7, none⟩) hpa _).set 0 _, ((((hB1.set 4 _).set 5 _).set 6 _).set 7 _).far (p := ⟨pa, 0, none⟩) hpga _, ((((hG1.setCell (p := ⟨g, 4, none⟩) (.inl h1) _).setCell (p := ⟨g, 5, none⟩) (.inl h1) _).setCell (p := ⟨g, 6, none⟩) (.inl h1) _).setCell (p := ⟨g, 7, none⟩) (.inl h1) _).setCell (p := ⟨pa, 0, none⟩) (.inl h2) _⟩
/-- A step over the one lane, the second time: nothing is cheaper. -/
theorem step2_c (pv pa g : Nat) (w w0 : World) (hv : Bk w pv 103 #[.slice (some ⟨g, 0, none⟩) 2 2]) (ha : Bk w pa 4 #[.bool false])
    (hB : Bk w g 106 #[.bool true, .bool true, .int .i64 0, .int .i64 0, .bool true, .bool false, .int .i64 4, .int .i64 0]) (hG : G w0 w none) (h1 : w0.heap.size ≤ g) (h2 : w0.heap.size ≤ pa) (hpg : pv ≠ g) (hpa : pa ≠ g) (hpp : pv ≠ pa) :
    Calls Try.prog 67 #[.int .i64 0, .int .i64 1, .int .i64 4, .int .i64 0, .pointer (some ⟨pv, 0, none⟩), .pointer (some ⟨pa, 0, none⟩)] w fun e w' => e = .returned (.tuple #[]) ∧
      Bk w' pv 103 #[.slice (some ⟨g, 0, none⟩) 2 2] ∧ Bk w' pa 4 #[.bool false] ∧ Bk w' g 106 #[.bool true, .bool true, .int .i64 0, .int .i64 0, .bool true, .bool false, .int .i64 4, .int .i64 0] ∧ G w0 w' none := by
  have a0 : w.cell? ⟨pv, 0, none⟩ = some (.slice (some ⟨g, 0, none⟩) 2 2) := hv.cell 0
  have b2 : w.cell? ⟨g, 2, none⟩ = some (.int .i64 0) := hB.cell 2
  go_enter Try.func67, Try.ntmps67
  go_upto_region 1 with fail
  have hv1 := hv.alloc (.cells #[.bool true, .bool false, .int .i64 4, .int .i64 0] 106)
  have ha1 := ha.alloc (.cells #[.bool true, .bool false, .int .i64 4, .int .i64 0] 106)
  have hB1 := hB.alloc (.cells #[.bool true, .bool false, .int .i64 4, .int .i64 0] 106)
  have hN1 := Bk.new w 106 #[.bool true, .bool false, .int .i64 4, .int .i64 0]
  have hG1 := hG.alloc (.cells #[.bool true, .bool false, .int .i64 4, .int .i64 0] 106)
  clear hv ha hB hG a0 b2
  generalize w.alloc (.cells #[.bool true, .bool false, .int .i64 4, .int .i64 0] 106) = w1 at hv1 ha1 hB1 hN1 hG1 ⊢
  generalize w.heap.size = n at hN1 ⊢
  have a0 : w1.cell? ⟨pv, 0, none⟩ = some (.slice (some ⟨g, 0, none⟩) 2 2) := hv1.cell 0
  have b0 : w1.cell? ⟨g, 0, none⟩ = some (.bool true) := hB1.cell 0
  have b4 : w1.cell? ⟨g, 4, none⟩ = some (.bool true) := hB1.cell 4
  have b6 : w1.cell? ⟨g, 6, none⟩ = some (.int .i64 4) := hB1.cell 6
  have n2 : w1.cell? ⟨n, 2, none⟩ = some (.int .i64 4) := hN1.cell 2
  go_quiet (fail)
  go_wp2_with fail
  go_end0
  exact ⟨rfl, hv1.drewN nq, ha1.drewN nq, hB1.drewN nq, hG1.drewN nq⟩
set_option maxRecDepth 100000 in
set_option maxHeartbeats 4000000 in
theorem trails_c (vl vn vo : Value) (w : World) (hl : RdI w vl [1, -1]) (hn : RdR w 3 lnC vn [(0, 1, 4)]) (ho : RdI w vo [0]) :
    Calls Try.prog 61 #[vl, vn, vo] w fun e w' => ∃ g, e = .returned (.slice (some ⟨g, 0, none⟩) 2 2) ∧ w.heap.size ≤ g ∧ Bk w' g 106 #[.bool true, .bool true, .int .i64 0, .int .i64 0, .bool true, .bool false, .int .i64 4, .int .i64 0] ∧ G w w' none := by
  obtain ⟨al, cl, rfl, -, -⟩ := RdR.form hl
  obtain ⟨an, cn, rfl, -, -⟩ := RdR.form hn
  obtain ⟨ao, co, rfl, -, -⟩ := RdR.form ho
  have hmk : ∀ w : World, (Instr.makeSlice 103 (.int .i64 2) (.int .i64 2)).run Try.prog w = .ok (.slice (some ⟨w.heap.size, 0, none⟩) 2 2) (w.alloc (.cells #[.bool false, .bool false, .int .i64 0, .int .i64 0, .bool false, .bool false, .int .i64 0, .int .i64 0] 106)) := fun w => by kernel_rfl
  have hl0 := hl
  have hG0 := G.refl w none
  obtain ⟨bl, ol, rfl, hbl, -⟩ := RdR.elem inC_sz hl hG0 (k := 0) (p := 1) rfl
  obtain ⟨bn, on, rfl, hbn, -⟩ := RdR.elem lnC_sz hn hG0 (k := 0) (p := (0, 1, 4)) rfl
  obtain ⟨bo, oo, rfl, hbo, -⟩ := RdR.elem inC_sz ho hG0 (k := 0) (p := 0) rfl
  have hcell : Hid (∀ w', G w w' none → w'.cell? ⟨bl, ol, none⟩ = some (.int .i64 1) ∧ w'.cell? ⟨bl, ol + 1, none⟩ = some (.int .i64 (-1)) ∧ w'.cell? ⟨bn, on, none⟩ = some (.int .i64 0) ∧ w'.cell? ⟨bn, on + 1, none⟩ = some (.int .i64 1) ∧ w'.cell? ⟨bn, on + 2, none⟩ = some (.int .i64 4) ∧ w'.cell? ⟨bo, oo, none⟩ = some (.int .i64 0)) := Lib.hid (fun w' h => by
    have e0 := RdR.cell inC_sz hl h (k := 0) (p := 1) rfl 0 (.int .i64 1) rfl
    have e1 := RdR.cell inC_sz hl h (k := 1) (p := -1) rfl 0 (.int .i64 (-1)) rfl
    have e2 := RdR.cell lnC_sz hn h (k := 0) (p := (0, 1, 4)) rfl 0 (.int .i64 0) rfl
    have e3 := RdR.cell lnC_sz hn h (k := 0) (p := (0, 1, 4)) rfl 1 (.int .i64 1) rfl
    have e4 := RdR.cell lnC_sz hn h (k := 0) (p := (0, 1, 4)) rfl 2 (.int .i64 4) rfl
    have e5 := RdR.cell inC_sz ho h (k := 0) (p := 0) rfl 0 (.int .i64 0) rfl
    simp only [Nat.zero_mul, Nat.one_mul, Nat.add_zero] at e0 e1 e2 e3 e4 e5
    exact ⟨e0, e1, e2, e3, e4, e5⟩)
  clear hl hl0 hn ho hbl hbn hbo
  go_enter Try.func61, Try.ntmps61
  go_upto_region 2 with fail
  have hB := (Bk.new w 106 #[.bool false, .bool false, .int .i64 0, .int .i64 0, .bool false, .bool false, .int .i64 0, .int .i64 0]).alloc (.cells #[.slice (some ⟨w.heap.size, 0, none⟩) 2 2] 103)
  have hv : Bk ((w.alloc (.cells #[.bool false, .bool false, .int .i64 0, .int .i64 0, .bool false, .bool false, .int .i64 0, .int .i64 0] 106)).alloc (.cells #[.slice (some ⟨w.heap.size, 0, none⟩) 2 2] 103)) (w.heap.size + 1) 103 #[.slice (some ⟨w.heap.size, 0, none⟩) 2 2] := Bk.newAt (by simp) _ _
  have hG1 := (hG0.alloc (.cells #[.bool false, .bool false, .int .i64 0, .int .i64 0, .bool false, .bool false, .int .i64 0, .int .i64 0] 106)).alloc (.cells #[.slice (some ⟨w.heap.size, 0, none⟩) 2 2] 103)
  generalize (w.alloc (.cells #[.bool false, .bool false, .int .i64 0, .int .i64 0, .bool false, .bool false, .int .i64 0, .int .i64 0] 106)).alloc (.cells #[.slice (some ⟨w.heap.size, 0, none⟩) 2 2] 103) = w1 at hB hv hG1 ⊢
  have hgs : w.heap.size ≤ w.heap.size := Nat.le_refl _
  obtain ⟨g, hg⟩ : ∃ g, w.heap.size = g := ⟨_, rfl⟩
  have hgs : w.heap.size ≤ g := by omega
  rw [hg] at hB hv ⊢
  clear hg
  obtain ⟨l0, l1, -, -, -, -⟩ := hcell.out _ hG1
  have v0 : w1.cell? ⟨g + 1, 0, none⟩ = some (.slice (some ⟨g, 0, none⟩) 2 2) := hv.cell 0
  have b0 : w1.cell? ⟨g, 0, none⟩ = some (.bool false) := hB.cell 0
  have fb0 : w1.frozen? ⟨g, 0, none⟩ = false := hB.free 0
  have b1 : w1.cell? ⟨g, 1, none⟩ = some (.bool false) := hB.cell 1
  have fb1 : w1.frozen? ⟨g, 1, none⟩ = false := hB.free 1
  have b2 : w1.cell? ⟨g, 2, none⟩ = some (.int .i64 0) := hB.cell 2
  have fb2 : w1.frozen? ⟨g, 2, none⟩ = false := hB.free 2
  have b3 : w1.cell? ⟨g, 3, none⟩ = some (.int .i64 0) := hB.cell 3
  have fb3 : w1.frozen? ⟨g, 3, none⟩ = false := hB.free 3
  go_wp2_with fail
  refine wp_loop_rounds 3 ?_
  rw [rounds_succ]
  go_wp2_with fail
  clear l0 l1 v0 b0 fb0 b1 fb1 b2 fb2 b3 fb3
  replace hB := ((((hB).set 0 (.bool true)).set 1 (.bool true)).set 2 (.int .i64 0)).set 3 (.int .i64 0)
  replace hv := ((((hv).far (p := ⟨g, 0, none⟩) (show g + 1 ≠ g by omega) (.bool true)).far (p := ⟨g, 1, none⟩) (show g + 1 ≠ g by omega) (.bool true)).far (p := ⟨g, 2, none⟩) (show g + 1 ≠ g by omega) (.int .i64 0)).far (p := ⟨g, 3, none⟩) (show g + 1 ≠ g by omega) (.int .i64 0)
  replace hG1 := ((((hG1).setCell (p := ⟨g, 0, none⟩) (.inl hgs) (.bool true)).setCell (p := ⟨g, 1, none⟩) (.inl hgs) (.bool true)).setCell (p := ⟨g, 2, none⟩) (.inl hgs) (.int .i64 0)).setCell (p := ⟨g, 3, none⟩) (.inl hgs) (.int .i64 0)
  generalize (((w1.setCell ⟨g, 0, none⟩ (.bool true)).setCell ⟨g, 1, none⟩ (.bool true)).setCell ⟨g, 2, none⟩ (.int .i64 0)).setCell ⟨g, 3, none⟩ (.int .i64 0) = w2 at hB hv hG1 ⊢
  obtain ⟨l0, l1, -, -, -, -⟩ := hcell.out _ hG1
  have v0 : w2.cell? ⟨g + 1, 0, none⟩ = some (.slice (some ⟨g, 0, none⟩) 2 2) := hv.cell 0
  have b4 : w2.cell? ⟨g, 4, none⟩ = some (.bool false) := hB.cell 4
  have fb4 : w2.frozen? ⟨g, 4, none⟩ = false := hB.free 4
  have b5 : w2.cell? ⟨g, 5, none⟩ = some (.bool false) := hB.cell 5
  have fb5 : w2.frozen? ⟨g, 5, none⟩ = false := hB.free 5
  have b6 : w2.cell? ⟨g, 6, none⟩ = some (.int .i64 0) := hB.cell 6
  have fb6 : w2.frozen? ⟨g, 6, none⟩ = false := hB.free 6
  have b7 : w2.cell? ⟨g, 7, none⟩ = some (.int .i64 0) := hB.cell 7
  have fb7 : w2.frozen? ⟨g, 7, none⟩ = false := hB.free 7
  rw [rounds_succ]
  go_wp2_with fail
  clear l0 l1 v0 b4 fb4 b5 fb5 b6 fb6 b7 fb7
  replace hB := ((((hB).set 4 (.bool false)).set 5 (.bool false)).set 6 (.int .i64 0)).set 7 (.int .i64 0)
  replace hv := ((((hv).far (p := ⟨g, 4, none⟩) (show g + 1 ≠ g by omega) (.bool false)).far (p := ⟨g, 5, none⟩) (show g + 1 ≠ g by omega) (.bool false)).far (p := ⟨g, 6, none⟩) (show g + 1 ≠ g by omega) (.int .i64 0)).far (p := ⟨g, 7, none⟩) (show g + 1 ≠ g by omega) (.int .i64 0)
  replace hG1 := ((((hG1).setCell (p := ⟨g, 4, none⟩) (.inl hgs) (.bool false)).setCell (p := ⟨g, 5, none⟩) (.inl hgs) (.bool false)).setCell (p := ⟨g, 6, none⟩) (.inl hgs) (.int .i64 0)).setCell (p := ⟨g, 7, none⟩) (.inl hgs) (.int .i64 0)
  generalize (((w2.setCell ⟨g, 4, none⟩ (.bool false)).setCell ⟨g, 5, none⟩ (.bool false)).setCell ⟨g, 6, none⟩ (.int .i64 0)).setCell ⟨g, 7, none⟩ (.int .i64 0) = w3 at hB hv hG1 ⊢
  rw [rounds_succ]
  go_wp2_with fail
  have ha := Bk.new w3 4 #[.bool true]
  have hga : g < w3.heap.size := hB.lt
  have hva : g + 1 < w3.heap.size := hv.lt
  replace hB := hB.alloc (.cells #[.bool true] 4)
  replace hv := hv.alloc (.cells #[.bool true] 4)
  replace hG1 := hG1.alloc (.cells #[.bool true] 4)
  generalize w3.alloc (.cells #[.bool true] 4) = wa at ha hB hv hG1 ⊢
  generalize w3.heap.size = pa at ha hga hva ⊢
  refine wp_loop_rounds 3 ?_
  rw [rounds_succ]
  have a0 : wa.cell? ⟨pa, 0, none⟩ = some (.bool true) := ha.cell 0
  have fa0 : wa.frozen? ⟨pa, 0, none⟩ = false := ha.free 0
  go_wp2_with fail
  clear a0 fa0
  replace hB := (hB).far (p := ⟨pa, 0, none⟩) (show g ≠ pa by omega) (.bool false)
  replace hv := (hv).far (p := ⟨pa, 0, none⟩) (show g + 1 ≠ pa by omega) (.bool false)
  replace ha := (ha).set 0 (.bool false)
  replace hG1 := (hG1).setCell (p := ⟨pa, 0, none⟩) (.inl (show w.heap.size ≤ pa by omega)) (.bool false)
  generalize wa.setCell ⟨pa, 0, none⟩ (.bool false) = w4 at hB hv ha hG1 ⊢
  obtain ⟨-, -, n0, n1, n2, -⟩ := hcell.out _ hG1
  refine wp_loop_rounds 2 ?_
  rw [rounds_succ]
  go_wp2_with fail
  refine (step1_c (g + 1) pa g _ w (hv.alloc _) (ha.alloc _) (hB.alloc _) (hG1.alloc _) hgs (by omega) (by omega) (by omega) (by omega)).mono ?_; rintro e ws1 ⟨rfl, hv', ha', hB', hG'⟩
  clear hv ha hB hG1 n0 n1 n2
  obtain ⟨-, -, -, -, -, o0⟩ := hcell.out _ hG'
  go_wp2_with fail
  rw [rounds_succ]
  go_wp2_with fail
  have hv := hv'
  have ha := ha'
  have hB := hB'
  have hG1 := hG'
  clear hv' ha' hB' hG' o0
  rw [rounds_succ]
  have a0 : ws1.cell? ⟨pa, 0, none⟩ = some (.bool true) := ha.cell 0
  have fa0 : ws1.frozen? ⟨pa, 0, none⟩ = false := ha.free 0
  go_wp2_with fail
  clear a0 fa0
  replace hB := (hB).far (p := ⟨pa, 0, none⟩) (show g ≠ pa by omega) (.bool false)
  replace hv := (hv).far (p := ⟨pa, 0, none⟩) (show g + 1 ≠ pa by omega) (.bool false)
  replace ha := (ha).set 0 (.bool false)
  replace hG1 := (hG1).setCell (p := ⟨pa, 0, none⟩) (.inl (show w.heap.size ≤ pa by omega)) (.bool false)
  generalize ws1.setCell ⟨pa, 0, none⟩ (.bool false) = w5 at hB hv ha hG1 ⊢
  obtain ⟨-, -, n0, n1, n2, -⟩ := hcell.out _ hG1
  refine wp_loop_rounds 2 ?_
  rw [rounds_succ]
  go_wp2_with fail
  refine (step2_c (g + 1) pa g _ w (hv.alloc _) (ha.alloc _) (hB.alloc _) (hG1.alloc _) hgs (by omega) (by omega) (by omega) (by omega)).mono ?_; rintro e ws2 ⟨rfl, hv', ha', hB', hG'⟩
  clear hv ha hB hG1 n0 n1 n2
  obtain ⟨-, -, -, -, -, o0⟩ := hcell.out _ hG'
  go_wp2_with fail
  rw [rounds_succ]
  go_wp2_with fail
  have hv := hv'
  have ha := ha'
  have hB := hB'
  have hG1 := hG'
  clear hv' ha' hB' hG' o0
  rw [rounds_succ]
  have a0 : ws2.cell? ⟨pa, 0, none⟩ = some (.bool false) := ha.cell 0
  have v0 : ws2.cell? ⟨g + 1, 0, none⟩ = some (.slice (some ⟨g, 0, none⟩) 2 2) := hv.cell 0
  go_wp2_with fail
  go_ret
  exact ⟨g, rfl, hgs, hB, hG1⟩
end Go.Proofs.Ytkpmcakppiinlaa

/- shift.Plan at one road: follow, leastLoads, leastCost, firstLoad. Written by genplb.py. -/
namespace Go.Proofs.Ytkpmcakppiinlaa
open Go.RowKit

/-- slices.Clone of ints. -/
theorem cloneIn_c (v : Value) (l : List Int) (w : World) (hr : RdI w v l) (hn : l.length ≤ 2000) :
    Calls Try.prog 48 #[v] w fun e w' => ∃ v', e = .returned v' ∧ OwnIn w' w.heap.size v' l ∧ G w w' none := by
  have q22 : ∀ (w : World) (a : Option Addr) (n c n' c' : Nat), (binOp .eql 22 (.slice a n c) (.slice none n' c')).run Try.prog w = .ok (.bool a.isNone) w := fun w a n c n' c' => Lib.run_eql_slice_nil w _ _ a n c n' c' Try.underlying22
  obtain ⟨a, cap, rfl, h1, h2, h3, h4, h5⟩ := hr
  cases a with
  | none =>
    obtain ⟨hz, hc⟩ := h4 rfl
    subst hc
    have hl : l = [] := List.eq_nil_of_length_eq_zero hz
    subst hl
    clear h1 h2 h3 h4 h5 hn
    go_enter Try.func48, Try.ntmps48
    go_wp2_with fail
    go_ret
    exact ⟨_, rfl, World.ownsRow_nil _ _ _ _, G.refl _ _⟩
  | some ad =>
    obtain ⟨b, o, s⟩ := ad
    obtain ⟨e1, e2, e3⟩ := h5 _ rfl
    dsimp only at e1 e2 e3
    subst e1
    obtain ⟨i0, hi, hz0, hz1, hz2⟩ := info_parts in_rowOk.row
    have E3 := Lib.hid e3
    clear e3 h4 h5
    go_enter Try.func48, Try.ntmps48
    go_wp2_with (at_builtin; refine wpList_append_own _ rfl _ _ 22 rfl w.heap.size 3 i0 (.int .i64 0) 1 8 Try.underlying22 hi hz0 hz1 hz2 rfl (by omega) _ _ _ rfl (World.ownsRow_made w #[] 0 (Nat.le_refl _) (Nat.zero_le _) (by simp)) ⟨b, o, none⟩ l.length cap (rowL inC l) rfl ?qc1 ?qc2 ?qc3 ?qc4 ?qc5 ?qc6 ?_)
    case qc1 => exact h3
    case qc2 =>
      intro j u hj
      rw [add_at]
      exact Lib.cell?_alloc_some _ (E3.out j u hj)
    case qc3 => exact rowL_one in_rowOk.one l
    case qc4 => unfold maxLen; omega
    case qc5 => omega
    case qc6 => simp
    intro v' w1 hown hgrow hnil
    go_wp2_with fail
    go_ret
    refine ⟨v', rfl, by simpa using hown, ?_⟩
    exact ((G.refl w none).alloc _).other hgrow (fun k hk => by simp [Value.ownBlock] at hk; omega)
theorem neg_c (n : Int) (w : World) : Calls Try.prog 60 #[.int .i64 n] w fun e w' => e = .returned (.bool (decide (n < 0))) ∧ w = w' := by
  go_enter Try.func60, Try.ntmps60
  go_wp2_with fail
  go_ret
  exact ⟨rfl, rfl⟩
set_option maxRecDepth 100000 in
set_option maxHeartbeats 2000000 in
theorem indexA_c (v : Value) (w : World) (hl : RdI w v [1, -1]) :
    Calls Try.prog 66 #[v, .func (.func 60) #[] #[]] w fun e w' => e = .returned (.int .i64 (1)) ∧ w' = w := by
  have hG0 := G.refl w none
  obtain ⟨al, cl, rfl, -, -⟩ := RdR.form hl
  obtain ⟨bl, ol, rfl, hbl, -⟩ := RdR.elem inC_sz hl hG0 (k := 0) (p := 1) rfl
  have e0 := RdR.cell inC_sz hl hG0 (k := 0) (p := 1) rfl 0 (.int .i64 (1)) rfl
  have e1 := RdR.cell inC_sz hl hG0 (k := 1) (p := -1) rfl 0 (.int .i64 (-1)) rfl
  simp only [Nat.zero_mul, Nat.one_mul, Nat.add_zero] at e0 e1
  clear hl
  go_enter Try.func66, Try.ntmps66
  go_wp2_with fail
  refine wp_loop_rounds 3 ?_
  rw [rounds_succ]
  go_wp2_with fail
  refine (neg_c _ _).mono ?_; rintro e w' ⟨rfl, rfl⟩
  go_wp2_with fail
  rw [rounds_succ]
  go_wp2_with fail
  refine (neg_c _ _).mono ?_; rintro e w' ⟨rfl, rfl⟩
  go_wp2_with fail
  go_ret
  exact ⟨rfl, rfl⟩
theorem contA_c (v : Value) (w : World) (hl : RdI w v [1, -1]) :
    Calls Try.prog 59 #[v, .func (.func 60) #[] #[]] w fun e w' => e = .returned (.bool true) ∧ w' = w := by
  go_enter Try.func59, Try.ntmps59
  go_wp2_with fail
  refine (indexA_c v w hl).mono ?_; rintro e w' ⟨rfl, rfl⟩
  go_wp2_with fail
  go_ret
  exact ⟨rfl, rfl⟩
set_option maxRecDepth 100000 in
set_option maxHeartbeats 2000000 in
theorem indexB_c (v : Value) (w : World) (hl : RdI w v [0, 0]) :
    Calls Try.prog 66 #[v, .func (.func 60) #[] #[]] w fun e w' => e = .returned (.int .i64 (-1)) ∧ w' = w := by
  have hG0 := G.refl w none
  obtain ⟨al, cl, rfl, -, -⟩ := RdR.form hl
  obtain ⟨bl, ol, rfl, hbl, -⟩ := RdR.elem inC_sz hl hG0 (k := 0) (p := 0) rfl
  have e0 := RdR.cell inC_sz hl hG0 (k := 0) (p := 0) rfl 0 (.int .i64 (0)) rfl
  have e1 := RdR.cell inC_sz hl hG0 (k := 1) (p := 0) rfl 0 (.int .i64 (0)) rfl
  simp only [Nat.zero_mul, Nat.one_mul, Nat.add_zero] at e0 e1
  clear hl
  go_enter Try.func66, Try.ntmps66
  go_wp2_with fail
  refine wp_loop_rounds 3 ?_
  rw [rounds_succ]
  go_wp2_with fail
  refine (neg_c _ _).mono ?_; rintro e w' ⟨rfl, rfl⟩
  go_wp2_with fail
  rw [rounds_succ]
  go_wp2_with fail
  refine (neg_c _ _).mono ?_; rintro e w' ⟨rfl, rfl⟩
  go_wp2_with fail
  rw [rounds_succ]
  go_wp2_with fail
  go_ret
  exact ⟨rfl, rfl⟩
theorem contB_c (v : Value) (w : World) (hl : RdI w v [0, 0]) :
    Calls Try.prog 59 #[v, .func (.func 60) #[] #[]] w fun e w' => e = .returned (.bool false) ∧ w' = w := by
  go_enter Try.func59, Try.ntmps59
  go_wp2_with fail
  refine (indexB_c v w hl).mono ?_; rintro e w' ⟨rfl, rfl⟩
  go_wp2_with fail
  go_ret
  exact ⟨rfl, rfl⟩
set_option maxRecDepth 100000 in
set_option maxHeartbeats 4000000 in
theorem follow_c (gt gl go bn on cl cn co : Nat) (w : World) (t0 : w.cell? ⟨gt, 1, none⟩ = some (.bool true)) (t1 : w.cell? ⟨gt, 4 + 1, none⟩ = some (.bool false)) (t2 : w.cell? ⟨gt, 4 + 3, none⟩ = some (.int .i64 0))
    (n0 : w.cell? ⟨bn, on, none⟩ = some (.int .i64 0)) (n1 : w.cell? ⟨bn, on + 1, none⟩ = some (.int .i64 1))
    (l0 : w.cell? ⟨gl, 0, none⟩ = some (.int .i64 1)) (l1 : w.cell? ⟨gl, 1, none⟩ = some (.int .i64 (-1))) (fl0 : w.frozen? ⟨gl, 0, none⟩ = false) (fl1 : w.frozen? ⟨gl, 1, none⟩ = false)
    (o0 : w.cell? ⟨go, 0, none⟩ = some (.int .i64 0)) (fo0 : w.frozen? ⟨go, 0, none⟩ = false)
    (d1 : gt ≠ gl) (d2 : gt ≠ go) (d3 : bn ≠ gl) (d4 : bn ≠ go) (d5 : gl ≠ go) :
    Calls Try.prog 62 #[.int .i64 1, .slice (some ⟨gt, 0, none⟩) 2 2, .slice (some ⟨gl, 0, none⟩) 2 cl, .slice (some ⟨bn, on, none⟩) 1 cn, .slice (some ⟨go, 0, none⟩) 1 co] w fun e w' => e = .returned (.tuple #[]) ∧
      w' = ((w.setCell ⟨gl, 1, none⟩ (.int .i64 0)).setCell ⟨go, 0, none⟩ (.int .i64 1)).setCell ⟨gl, 0, none⟩ (.int .i64 0) := by
  have d6 := d5.symm
  go_enter Try.func62, Try.ntmps62
  go_wp2_with fail
  refine wp_loop_rounds 3 ?_
  rw [rounds_succ]
  go_wp2_with fail
  rw [rounds_succ]
  go_wp2_with fail
  go_end0
  exact ⟨rfl, rfl⟩
set_option maxRecDepth 100000 in
set_option maxHeartbeats 4000000 in
theorem leastA_c (vl vn : Value) (w : World) (hl : RdI w vl [1, -1]) (hn : RdR w 3 lnC vn [(0, 1, 4)]) :
    Calls Try.prog 47 #[vl, vn] w fun e w' => ∃ go, e = .returned (.tuple #[.slice (some ⟨go, 0, none⟩) 1 1, .bool true]) ∧ Bk w' go 3 #[.int .i64 1] ∧ G w w' none := by
  have hmk : ∀ w : World, (Instr.makeSlice 22 (.int .i64 1) (.int .i64 1)).run Try.prog w = .ok (.slice (some ⟨w.heap.size, 0, none⟩) 1 1) (w.alloc (.cells #[.int .i64 0] 3)) := fun w => by kernel_rfl
  obtain ⟨al, cl, rfl, -, -⟩ := RdR.form hl
  obtain ⟨an, cn, rfl, -, -⟩ := RdR.form hn
  have CC := Lib.hid (fun w' (p : RdI w' (.slice al [1, -1].length cl) [1, -1]) => cloneIn_c _ _ w' p (by simp))
  go_enter Try.func47, Try.ntmps47
  go_upto_region 1 with fail
  go_cut [0, 6] from 11 (fun s0 s6 w' => ∃ go, OwnIn w' w.heap.size s0 [1, -1] ∧ s6 = .slice (some ⟨go, 0, none⟩) 1 1 ∧ Bk w' go 3 #[.int .i64 0] ∧ (∀ k, s0.ownBlock = some k → k ≠ go) ∧ w.heap.size ≤ go ∧ G w w' none)
  case first =>
    have hG := (G.refl w none).drew
    refine wp_region_held_drew (S := (fun _ : World => True)) (by kernel_rfl) ?_ (fun hHeld => ?_)
    · exact trivial
    generalize w.drew = wd at hHeld hG ⊢
    refine wpAnyH_take (i := 0) (oi := { dst := some 11, op := Op.move (Operand.tmp 0), type := 22, pos := _, after := #[], guard := none }) (v := ?_) rfl (by kernel_rfl) (by kernel_rfl) (by kernel_rfl) (fun _ _ _ h => h) (Or.inl ⟨by rfl, ?_⟩) (by assumption) ?_
    rotate_left
    · (intro w hSw; clear hSw; (go_simp <;> with_reducible rfl))
    try simp only [Act.put, List.setIfInBounds_toArray, List.set_cons_zero, List.set_cons_succ]
    refine wpAnyH_take (i := 2) (oi := { dst := some 13, op := Op.move (Operand.tmp 1), type := 65, pos := _, after := #[], guard := none }) (v := ?_) rfl (by kernel_rfl) (by kernel_rfl) (by kernel_rfl) (fun _ _ _ h => h) (Or.inl ⟨by rfl, ?_⟩) (by assumption) ?_
    rotate_left
    · (intro w hSw; clear hSw; (go_simp <;> with_reducible rfl))
    try simp only [Act.put, List.setIfInBounds_toArray, List.set_cons_zero, List.set_cons_succ]
    refine wpAnyH_take (i := 3) (oi := { dst := some 14, op := Op.call { callee := Callee.builtin Builtin.len, args := #[Operand.tmp 13], argTypes := #[65] }, type := 3, pos := _, after := #[{ on := 2, ground := Ground.data }], guard := none }) (v := ?_) rfl (by kernel_rfl) (by kernel_rfl) (by kernel_rfl) (fun _ _ _ h => h) (Or.inl ⟨by rfl, ?_⟩) (by assumption) ?_
    rotate_left
    · (intro w hSw; clear hSw; (go_simp <;> with_reducible rfl))
    try simp only [Act.put, List.setIfInBounds_toArray, List.set_cons_zero, List.set_cons_succ]
    refine wpAnyH_ready (rs := [1, 4]) (by kernel_rfl) (by simp) ?_
    refine (AllReadyH.cons (o := { dst := some 12, op := Op.call { callee := Callee.value (Operand.func 48), args := #[Operand.tmp 11], argTypes := #[22] }, type := 22, pos := _, after := #[{ on := 0, ground := Ground.data }], guard := none }) rfl (fun K hK => ?_) (AllReadyH.cons (o := { dst := some 15, op := Op.makeSlice 22 (Operand.tmp 14) (Operand.tmp 14), type := 22, pos := _, after := #[{ on := 3, ground := Ground.data }, { on := 3, ground := Ground.data }], guard := none }) rfl (fun K hK => ?_) AllReadyH.nil))
    · go_simp
      refine (CC.out _ (hl.quiet hG)).mono ?_
      rintro e wc1 ⟨vL, rfl, hL, hh⟩
      replace hL := OwnX.down hL hG.size
      replace hG := hG.trans hh
      clear hh
      refine hK.out _ _ ?_ (fun hHeld => ?_)
      · exact trivial
      clear hK K
      try simp only [Act.put, List.setIfInBounds_toArray, List.set_cons_zero, List.set_cons_succ]
      refine wpAnyH_take (i := 5) (oi := { dst := some 0, op := Op.assign (Operand.tmp 12), type := 22, pos := _, after := #[{ on := 1, ground := Ground.data }, { on := 1, ground := Ground.chain }, { on := 0, ground := Ground.phase }, { on := 1, ground := Ground.phase }, { on := 2, ground := Ground.textOnly Departure.lateStores }, { on := 3, ground := Ground.textOnly Departure.lateStoresUnsure }, { on := 4, ground := Ground.textOnly Departure.lateStoresUnsure }], guard := none }) (v := ?_) rfl (by kernel_rfl) (by kernel_rfl) (by kernel_rfl) (fun _ _ _ h => h) (Or.inl ⟨by rfl, ?_⟩) (by assumption) ?_
      rotate_left
      · (intro w hSw; clear hSw; (go_simp <;> with_reducible rfl))
      try simp only [Act.put, List.setIfInBounds_toArray, List.set_cons_zero, List.set_cons_succ]
      refine wpAnyH_ready (rs := [4]) (by kernel_rfl) (by simp) ?_
      refine (AllReadyH.cons (o := { dst := some 15, op := Op.makeSlice 22 (Operand.tmp 14) (Operand.tmp 14), type := 22, pos := _, after := #[{ on := 3, ground := Ground.data }, { on := 3, ground := Ground.data }], guard := none }) rfl (fun K hK => ?_) AllReadyH.nil)
      go_simp
      have hO := Bk.new wc1 3 #[.int .i64 0]
      have hgo : ∀ k, vL.ownBlock = some k → k ≠ wc1.heap.size := fun k e => by have h1 := (World.ownsRow.lt hL k e).2; omega
      replace hL := OwnX.alloc hL (.cells #[.int .i64 0] 3)
      have hgs : w.heap.size ≤ wc1.heap.size := hG.size
      replace hG := hG.alloc (.cells #[.int .i64 0] 3)
      generalize wc1.alloc (.cells #[.int .i64 0] 3) = wm2 at hO hL hG ⊢
      generalize wc1.heap.size = go at hO hgo hgs ⊢
      refine hK.out _ _ ?_ (fun hHeld => ?_)
      · exact trivial
      clear hK K
      try simp only [Act.put, List.setIfInBounds_toArray, List.set_cons_zero, List.set_cons_succ]
      refine wpAnyH_take (i := 6) (oi := { dst := some 6, op := Op.assign (Operand.tmp 15), type := 22, pos := _, after := #[{ on := 4, ground := Ground.data }, { on := 5, ground := Ground.chain }, { on := 0, ground := Ground.phase }, { on := 1, ground := Ground.phase }, { on := 2, ground := Ground.phase }, { on := 3, ground := Ground.phase }, { on := 4, ground := Ground.phase }, { on := 5, ground := Ground.phase }], guard := none }) (v := ?_) rfl (by kernel_rfl) (by kernel_rfl) (by kernel_rfl) (fun _ _ _ h => h) (Or.inl ⟨by rfl, ?_⟩) (by assumption) ?_
      rotate_left
      · (intro w hSw; clear hSw; (go_simp <;> with_reducible rfl))
      try simp only [Act.put, List.setIfInBounds_toArray, List.set_cons_zero, List.set_cons_succ]
      refine wpAnyH_done (by kernel_rfl) ?_ _
      clear hHeld
      go_wp2_with fail
      go_meet
      case rel => exact ⟨go, hL, rfl, hO, hgo, hgs, hG⟩
    · go_simp
      have hO := Bk.new wd 3 #[.int .i64 0]
      have hgs : w.heap.size ≤ wd.heap.size := hG.size
      replace hG := hG.alloc (.cells #[.int .i64 0] 3)
      have hgl : wd.heap.size < (wd.alloc (.cells #[.int .i64 0] 3)).heap.size := hO.lt
      generalize wd.alloc (.cells #[.int .i64 0] 3) = wm1 at hO hG hgl ⊢
      generalize wd.heap.size = go at hO hgs hgl ⊢
      refine hK.out _ _ ?_ (fun hHeld => ?_)
      · exact trivial
      clear hK K
      try simp only [Act.put, List.setIfInBounds_toArray, List.set_cons_zero, List.set_cons_succ]
      refine wpAnyH_ready (rs := [1]) (by kernel_rfl) (by simp) ?_
      refine (AllReadyH.cons (o := { dst := some 12, op := Op.call { callee := Callee.value (Operand.func 48), args := #[Operand.tmp 11], argTypes := #[22] }, type := 22, pos := _, after := #[{ on := 0, ground := Ground.data }], guard := none }) rfl (fun K hK => ?_) AllReadyH.nil)
      go_simp
      refine (CC.out _ (hl.quiet hG)).mono ?_
      rintro e wc2 ⟨vL, rfl, hL, hh⟩
      have hgo : ∀ k, vL.ownBlock = some k → k ≠ go := fun k e => by have h1 := (World.ownsRow.lt hL k e).1; omega
      have hO := hO.quiet hh
      replace hG := hG.trans hh
      clear hh
      replace hL := OwnX.down (b := w.heap.size) hL (by omega)
      refine hK.out _ _ ?_ (fun hHeld => ?_)
      · exact trivial
      clear hK K
      try simp only [Act.put, List.setIfInBounds_toArray, List.set_cons_zero, List.set_cons_succ]
      refine wpAnyH_take (i := 5) (oi := { dst := some 0, op := Op.assign (Operand.tmp 12), type := 22, pos := _, after := #[{ on := 1, ground := Ground.data }, { on := 1, ground := Ground.chain }, { on := 0, ground := Ground.phase }, { on := 1, ground := Ground.phase }, { on := 2, ground := Ground.textOnly Departure.lateStores }, { on := 3, ground := Ground.textOnly Departure.lateStoresUnsure }, { on := 4, ground := Ground.textOnly Departure.lateStoresUnsure }], guard := none }) (v := ?_) rfl (by kernel_rfl) (by kernel_rfl) (by kernel_rfl) (fun _ _ _ h => h) (Or.inl ⟨by rfl, ?_⟩) (by assumption) ?_
      rotate_left
      · (intro w hSw; clear hSw; (go_simp <;> with_reducible rfl))
      try simp only [Act.put, List.setIfInBounds_toArray, List.set_cons_zero, List.set_cons_succ]
      refine wpAnyH_take (i := 6) (oi := { dst := some 6, op := Op.assign (Operand.tmp 15), type := 22, pos := _, after := #[{ on := 4, ground := Ground.data }, { on := 5, ground := Ground.chain }, { on := 0, ground := Ground.phase }, { on := 1, ground := Ground.phase }, { on := 2, ground := Ground.phase }, { on := 3, ground := Ground.phase }, { on := 4, ground := Ground.phase }, { on := 5, ground := Ground.phase }], guard := none }) (v := ?_) rfl (by kernel_rfl) (by kernel_rfl) (by kernel_rfl) (fun _ _ _ h => h) (Or.inl ⟨by rfl, ?_⟩) (by assumption) ?_
      rotate_left
      · (intro w hSw; clear hSw; (go_simp <;> with_reducible rfl))
      try simp only [Act.put, List.setIfInBounds_toArray, List.set_cons_zero, List.set_cons_succ]
      refine wpAnyH_done (by kernel_rfl) ?_ _
      clear hHeld
      go_wp2_with fail
      go_meet
      case rel => exact ⟨go, hL, rfl, hO, hgo, hgs, hG⟩
  case rest =>
  obtain ⟨go, hL, rfl, hO, hgo, hgs, hG⟩ := hcut
  clear CC
  obtain ⟨gl, cL, cur, e, hBL⟩ := OwnX.form0 hL (by simp)
  subst e
  have hgl : w.heap.size ≤ gl := OwnX.low hL gl rfl
  have hlo : gl ≠ go := hgo gl rfl
  have hRL := Rd.of_owns hL
  have hlL := hBL.lt
  have hlO := hO.lt
  obtain ⟨bn, on, rfl, hbn, -⟩ := RdR.elem lnC_sz (hn.quiet hG) (G.refl _ none) (k := 0) (p := (0, 1, 4)) rfl
  have hbnw : bn < w.heap.size := by
    obtain ⟨b9, o9, e9, h9, -⟩ := RdR.elem lnC_sz hn (G.refl w none) (k := 0) (p := (0, 1, 4)) rfl
    injection e9 with e9; injection e9 with e9 _; omega
  go_wp2_with fail
  refine wp_loop_rounds 2 ?_
  rw [rounds_succ]
  go_wp2_with fail
  refine (contA_c _ _ hRL).mono ?_; rintro e wx ⟨rfl, rfl⟩
  go_wp2_with fail
  refine (trails_c _ _ _ _ hRL (hn.quiet hG) (hO.rd 1 1 rfl (by omega))).mono ?_; rintro e wt ⟨gt, rfl, hgt, hT, hh⟩
  replace hL := OwnX.quiet hL hh
  replace hBL := hBL.quiet hh
  replace hO := hO.quiet hh
  replace hG := hG.trans hh
  have e1 : gt ≠ gl := by omega
  have e2 : gt ≠ go := by omega
  have e3 : bn ≠ gl := by omega
  have e4 : bn ≠ go := by omega
  clear hh hgo hRL hlL hlO hgt hbnw hbn
  go_wp2_with fail
  refine wp_loop_rounds 3 ?_
  rw [rounds_succ]
  have t0 : wt.cell? ⟨gt, 0, none⟩ = some (.bool true) := hT.cell 0
  have t1 : wt.cell? ⟨gt, 1, none⟩ = some (.bool true) := hT.cell 1
  have t2 : wt.cell? ⟨gt, 2, none⟩ = some (.int .i64 0) := hT.cell 2
  have t3 : wt.cell? ⟨gt, 3, none⟩ = some (.int .i64 0) := hT.cell 3
  go_upto_region 8 with fail
  have hN := Bk.new wt 106 #[.bool true, .bool true, .int .i64 0, .int .i64 0]
  replace hT := hT.alloc (.cells #[.bool true, .bool true, .int .i64 0, .int .i64 0] 106)
  replace hL := OwnX.alloc hL (.cells #[.bool true, .bool true, .int .i64 0, .int .i64 0] 106)
  replace hBL := hBL.alloc (.cells #[.bool true, .bool true, .int .i64 0, .int .i64 0] 106)
  replace hO := hO.alloc (.cells #[.bool true, .bool true, .int .i64 0, .int .i64 0] 106)
  replace hG := hG.alloc (.cells #[.bool true, .bool true, .int .i64 0, .int .i64 0] 106)
  clear t0 t1 t2 t3
  generalize wt.alloc (.cells #[.bool true, .bool true, .int .i64 0, .int .i64 0] 106) = wn0 at hN hT hL hBL hO hG ⊢
  generalize wt.heap.size = n0 at hN ⊢
  have l0 : wn0.cell? ⟨gl, 0, none⟩ = some (.int .i64 (1)) := by
    have h := RdR.cell inC_sz (Rd.of_owns hL) (G.refl _ none) (k := 0) (p := 1) rfl 0 (.int .i64 (1)) rfl
    simpa using h
  have m0 : wn0.cell? ⟨n0, 0, none⟩ = some (.bool true) := hN.cell 0
  go_quiet (fail)
  replace hT := hT.drewN nq
  replace hL := OwnX.quiet hL ((G.refl _ none).drewN nq)
  replace hBL := hBL.drewN nq
  replace hO := hO.drewN nq
  replace hG := hG.drewN nq
  clear hN l0 m0
  generalize wn0.drewN nq = wq0 at hT hL hBL hO hG ⊢
  go_wp2_with fail
  rw [rounds_succ]
  have t0 : wq0.cell? ⟨gt, 4, none⟩ = some (.bool true) := hT.cell 4
  have t1 : wq0.cell? ⟨gt, 5, none⟩ = some (.bool false) := hT.cell 5
  have t2 : wq0.cell? ⟨gt, 6, none⟩ = some (.int .i64 4) := hT.cell 6
  have t3 : wq0.cell? ⟨gt, 7, none⟩ = some (.int .i64 0) := hT.cell 7
  go_upto_region 8 with fail
  have hN := Bk.new wq0 106 #[.bool true, .bool false, .int .i64 4, .int .i64 0]
  replace hT := hT.alloc (.cells #[.bool true, .bool false, .int .i64 4, .int .i64 0] 106)
  replace hL := OwnX.alloc hL (.cells #[.bool true, .bool false, .int .i64 4, .int .i64 0] 106)
  replace hBL := hBL.alloc (.cells #[.bool true, .bool false, .int .i64 4, .int .i64 0] 106)
  replace hO := hO.alloc (.cells #[.bool true, .bool false, .int .i64 4, .int .i64 0] 106)
  replace hG := hG.alloc (.cells #[.bool true, .bool false, .int .i64 4, .int .i64 0] 106)
  clear t0 t1 t2 t3
  generalize wq0.alloc (.cells #[.bool true, .bool false, .int .i64 4, .int .i64 0] 106) = wn1 at hN hT hL hBL hO hG ⊢
  generalize wq0.heap.size = n1 at hN ⊢
  have l0 : wn1.cell? ⟨gl, 1, none⟩ = some (.int .i64 (-1)) := by
    have h := RdR.cell inC_sz (Rd.of_owns hL) (G.refl _ none) (k := 1) (p := -1) rfl 0 (.int .i64 (-1)) rfl
    simpa using h
  have m0 : wn1.cell? ⟨n1, 0, none⟩ = some (.bool true) := hN.cell 0
  go_quiet (fail)
  replace hT := hT.drewN nq
  replace hL := OwnX.quiet hL ((G.refl _ none).drewN nq)
  replace hBL := hBL.drewN nq
  replace hO := hO.drewN nq
  replace hG := hG.drewN nq
  clear hN l0 m0
  generalize wn1.drewN nq = wq1 at hT hL hBL hO hG ⊢
  go_wp2_with fail
  rw [rounds_succ]
  go_wp2_with fail
  have l0 := RdR.cell inC_sz (Rd.of_owns hL) (G.refl _ none) (k := 0) (p := 1) rfl 0 (.int .i64 1) rfl
  have l1 := RdR.cell inC_sz (Rd.of_owns hL) (G.refl _ none) (k := 1) (p := -1) rfl 0 (.int .i64 (-1)) rfl
  have n0 := RdR.cell lnC_sz hn hG (k := 0) (p := (0, 1, 4)) rfl 0 (.int .i64 0) rfl
  have n1 := RdR.cell lnC_sz hn hG (k := 0) (p := (0, 1, 4)) rfl 1 (.int .i64 1) rfl
  simp only [Nat.zero_mul, Nat.one_mul, Nat.add_zero, Nat.zero_add] at l0 l1 n0 n1
  refine (follow_c gt gl go bn on cL cn 1 wq1 (hT.cell 1) (hT.cell 5) (hT.cell 7) n0 n1 l0 l1 (hBL.free 0) (hBL.free 1) (hO.cell 0) (hO.free 0) e1 e2 e3 e4 hlo).mono ?_; rintro e wf ⟨rfl, rfl⟩
  clear l0 l1 n0 n1 hT
  have k1 := OwnX.set inC_sz hL (k := 1) (p := -1) rfl (q := 0) 0 (.int .i64 0) (by omega) rfl
  have k2 := OwnX.far (l := [1, 0]) k1 (p := ⟨go, 0, none⟩) (fun e => by injection e with e; exact hlo e.symm) (.int .i64 1)
  have k3 := OwnX.set (l := [1, 0]) inC_sz k2 (k := 0) (p := 1) rfl (q := 0) 0 (.int .i64 0) (by omega) rfl
  have k4 : RdI (((wq1.setCell ⟨gl, 1, none⟩ (.int .i64 0)).setCell ⟨go, 0, none⟩ (.int .i64 1)).setCell ⟨gl, 0, none⟩ (.int .i64 0)) (.slice (some ⟨gl, 0, none⟩) 2 cL) [0, 0] := Rd.of_owns k3
  replace hO := ((hO.far (p := ⟨gl, 1, none⟩) hlo.symm (.int .i64 0)).set 0 (.int .i64 1)).far (p := ⟨gl, 0, none⟩) hlo.symm (.int .i64 0)
  replace hG := ((hG.setCell (p := ⟨gl, 1, none⟩) (.inl hgl) (.int .i64 0)).setCell (p := ⟨go, 0, none⟩) (.inl hgs) (.int .i64 1)).setCell (p := ⟨gl, 0, none⟩) (.inl hgl) (.int .i64 0)
  clear k1 k2 k3 hL hBL
  generalize ((wq1.setCell ⟨gl, 1, none⟩ (.int .i64 0)).setCell ⟨go, 0, none⟩ (.int .i64 1)).setCell ⟨gl, 0, none⟩ (.int .i64 0) = wz at k4 hO hG ⊢
  go_wp2_with fail
  rw [rounds_succ]
  go_wp2_with fail
  refine (contB_c _ _ k4).mono ?_; rintro e wx ⟨rfl, rfl⟩
  go_wp2_with fail
  go_ret2
  exact ⟨go, rfl, hO, hG⟩
set_option maxRecDepth 100000 in
set_option maxHeartbeats 4000000 in
theorem leastB_c (vl vn : Value) (w : World) (hl : RdI w vl [0, 0]) (hn : RdR w 3 lnC vn []) :
    Calls Try.prog 47 #[vl, vn] w fun e w' => ∃ go, e = .returned (.tuple #[.slice (some ⟨go, 0, none⟩) 0 0, .bool true]) ∧ Bk w' go 3 #[] ∧ G w w' none := by
  have hmk : ∀ w : World, (Instr.makeSlice 22 (.int .i64 0) (.int .i64 0)).run Try.prog w = .ok (.slice (some ⟨w.heap.size, 0, none⟩) 0 0) (w.alloc (.cells #[] 3)) := fun w => by kernel_rfl
  obtain ⟨al, cl, rfl, -, -⟩ := RdR.form hl
  obtain ⟨an, cn, rfl, -, -⟩ := RdR.form hn
  have CC := Lib.hid (fun w' (p : RdI w' (.slice al [0, 0].length cl) [0, 0]) => cloneIn_c _ _ w' p (by simp))
  go_enter Try.func47, Try.ntmps47
  go_upto_region 1 with fail
  go_cut [0, 6] from 11 (fun s0 s6 w' => ∃ go, OwnIn w' w.heap.size s0 [0, 0] ∧ s6 = .slice (some ⟨go, 0, none⟩) 0 0 ∧ Bk w' go 3 #[] ∧ (∀ k, s0.ownBlock = some k → k ≠ go) ∧ w.heap.size ≤ go ∧ G w w' none)
  case first =>
    have hG := (G.refl w none).drew
    refine wp_region_held_drew (S := (fun _ : World => True)) (by kernel_rfl) ?_ (fun hHeld => ?_)
    · exact trivial
    generalize w.drew = wd at hHeld hG ⊢
    refine wpAnyH_take (i := 0) (oi := { dst := some 11, op := Op.move (Operand.tmp 0), type := 22, pos := _, after := #[], guard := none }) (v := ?_) rfl (by kernel_rfl) (by kernel_rfl) (by kernel_rfl) (fun _ _ _ h => h) (Or.inl ⟨by rfl, ?_⟩) (by assumption) ?_
    rotate_left
    · (intro w hSw; clear hSw; (go_simp <;> with_reducible rfl))
    try simp only [Act.put, List.setIfInBounds_toArray, List.set_cons_zero, List.set_cons_succ]
    refine wpAnyH_take (i := 2) (oi := { dst := some 13, op := Op.move (Operand.tmp 1), type := 65, pos := _, after := #[], guard := none }) (v := ?_) rfl (by kernel_rfl) (by kernel_rfl) (by kernel_rfl) (fun _ _ _ h => h) (Or.inl ⟨by rfl, ?_⟩) (by assumption) ?_
    rotate_left
    · (intro w hSw; clear hSw; (go_simp <;> with_reducible rfl))
    try simp only [Act.put, List.setIfInBounds_toArray, List.set_cons_zero, List.set_cons_succ]
    refine wpAnyH_take (i := 3) (oi := { dst := some 14, op := Op.call { callee := Callee.builtin Builtin.len, args := #[Operand.tmp 13], argTypes := #[65] }, type := 3, pos := _, after := #[{ on := 2, ground := Ground.data }], guard := none }) (v := ?_) rfl (by kernel_rfl) (by kernel_rfl) (by kernel_rfl) (fun _ _ _ h => h) (Or.inl ⟨by rfl, ?_⟩) (by assumption) ?_
    rotate_left
    · (intro w hSw; clear hSw; (go_simp <;> with_reducible rfl))
    try simp only [Act.put, List.setIfInBounds_toArray, List.set_cons_zero, List.set_cons_succ]
    refine wpAnyH_ready (rs := [1, 4]) (by kernel_rfl) (by simp) ?_
    refine (AllReadyH.cons (o := { dst := some 12, op := Op.call { callee := Callee.value (Operand.func 48), args := #[Operand.tmp 11], argTypes := #[22] }, type := 22, pos := _, after := #[{ on := 0, ground := Ground.data }], guard := none }) rfl (fun K hK => ?_) (AllReadyH.cons (o := { dst := some 15, op := Op.makeSlice 22 (Operand.tmp 14) (Operand.tmp 14), type := 22, pos := _, after := #[{ on := 3, ground := Ground.data }, { on := 3, ground := Ground.data }], guard := none }) rfl (fun K hK => ?_) AllReadyH.nil))
    · go_simp
      refine (CC.out _ (hl.quiet hG)).mono ?_
      rintro e wc1 ⟨vL, rfl, hL, hh⟩
      replace hL := OwnX.down hL hG.size
      replace hG := hG.trans hh
      clear hh
      refine hK.out _ _ ?_ (fun hHeld => ?_)
      · exact trivial
      clear hK K
      try simp only [Act.put, List.setIfInBounds_toArray, List.set_cons_zero, List.set_cons_succ]
      refine wpAnyH_take (i := 5) (oi := { dst := some 0, op := Op.assign (Operand.tmp 12), type := 22, pos := _, after := #[{ on := 1, ground := Ground.data }, { on := 1, ground := Ground.chain }, { on := 0, ground := Ground.phase }, { on := 1, ground := Ground.phase }, { on := 2, ground := Ground.textOnly Departure.lateStores }, { on := 3, ground := Ground.textOnly Departure.lateStoresUnsure }, { on := 4, ground := Ground.textOnly Departure.lateStoresUnsure }], guard := none }) (v := ?_) rfl (by kernel_rfl) (by kernel_rfl) (by kernel_rfl) (fun _ _ _ h => h) (Or.inl ⟨by rfl, ?_⟩) (by assumption) ?_
      rotate_left
      · (intro w hSw; clear hSw; (go_simp <;> with_reducible rfl))
      try simp only [Act.put, List.setIfInBounds_toArray, List.set_cons_zero, List.set_cons_succ]
      refine wpAnyH_ready (rs := [4]) (by kernel_rfl) (by simp) ?_
      refine (AllReadyH.cons (o := { dst := some 15, op := Op.makeSlice 22 (Operand.tmp 14) (Operand.tmp 14), type := 22, pos := _, after := #[{ on := 3, ground := Ground.data }, { on := 3, ground := Ground.data }], guard := none }) rfl (fun K hK => ?_) AllReadyH.nil)
      go_simp
      have hO := Bk.new wc1 3 #[]
      have hgo : ∀ k, vL.ownBlock = some k → k ≠ wc1.heap.size := fun k e => by have h1 := (World.ownsRow.lt hL k e).2; omega
      replace hL := OwnX.alloc hL (.cells #[] 3)
      have hgs : w.heap.size ≤ wc1.heap.size := hG.size
      replace hG := hG.alloc (.cells #[] 3)
      generalize wc1.alloc (.cells #[] 3) = wm2 at hO hL hG ⊢
      generalize wc1.heap.size = go at hO hgo hgs ⊢
      refine hK.out _ _ ?_ (fun hHeld => ?_)
      · exact trivial
      clear hK K
      try simp only [Act.put, List.setIfInBounds_toArray, List.set_cons_zero, List.set_cons_succ]
      refine wpAnyH_take (i := 6) (oi := { dst := some 6, op := Op.assign (Operand.tmp 15), type := 22, pos := _, after := #[{ on := 4, ground := Ground.data }, { on := 5, ground := Ground.chain }, { on := 0, ground := Ground.phase }, { on := 1, ground := Ground.phase }, { on := 2, ground := Ground.phase }, { on := 3, ground := Ground.phase }, { on := 4, ground := Ground.phase }, { on := 5, ground := Ground.phase }], guard := none }) (v := ?_) rfl (by kernel_rfl) (by kernel_rfl) (by kernel_rfl) (fun _ _ _ h => h) (Or.inl ⟨by rfl, ?_⟩) (by assumption) ?_
      rotate_left
      · (intro w hSw; clear hSw; (go_simp <;> with_reducible rfl))
      try simp only [Act.put, List.setIfInBounds_toArray, List.set_cons_zero, List.set_cons_succ]
      refine wpAnyH_done (by kernel_rfl) ?_ _
      clear hHeld
      go_wp2_with fail
      go_meet
      case rel => exact ⟨go, hL, rfl, hO, hgo, hgs, hG⟩
    · go_simp
      have hO := Bk.new wd 3 #[]
      have hgs : w.heap.size ≤ wd.heap.size := hG.size
      replace hG := hG.alloc (.cells #[] 3)
      have hgl : wd.heap.size < (wd.alloc (.cells #[] 3)).heap.size := hO.lt
      generalize wd.alloc (.cells #[] 3) = wm1 at hO hG hgl ⊢
      generalize wd.heap.size = go at hO hgs hgl ⊢
      refine hK.out _ _ ?_ (fun hHeld => ?_)
      · exact trivial
      clear hK K
      try simp only [Act.put, List.setIfInBounds_toArray, List.set_cons_zero, List.set_cons_succ]
      refine wpAnyH_ready (rs := [1]) (by kernel_rfl) (by simp) ?_
      refine (AllReadyH.cons (o := { dst := some 12, op := Op.call { callee := Callee.value (Operand.func 48), args := #[Operand.tmp 11], argTypes := #[22] }, type := 22, pos := _, after := #[{ on := 0, ground := Ground.data }], guard := none }) rfl (fun K hK => ?_) AllReadyH.nil)
      go_simp
      refine (CC.out _ (hl.quiet hG)).mono ?_
      rintro e wc2 ⟨vL, rfl, hL, hh⟩
      have hgo : ∀ k, vL.ownBlock = some k → k ≠ go := fun k e => by have h1 := (World.ownsRow.lt hL k e).1; omega
      have hO := hO.quiet hh
      replace hG := hG.trans hh
      clear hh
      replace hL := OwnX.down (b := w.heap.size) hL (by omega)
      refine hK.out _ _ ?_ (fun hHeld => ?_)
      · exact trivial
      clear hK K
      try simp only [Act.put, List.setIfInBounds_toArray, List.set_cons_zero, List.set_cons_succ]
      refine wpAnyH_take (i := 5) (oi := { dst := some 0, op := Op.assign (Operand.tmp 12), type := 22, pos := _, after := #[{ on := 1, ground := Ground.data }, { on := 1, ground := Ground.chain }, { on := 0, ground := Ground.phase }, { on := 1, ground := Ground.phase }, { on := 2, ground := Ground.textOnly Departure.lateStores }, { on := 3, ground := Ground.textOnly Departure.lateStoresUnsure }, { on := 4, ground := Ground.textOnly Departure.lateStoresUnsure }], guard := none }) (v := ?_) rfl (by kernel_rfl) (by kernel_rfl) (by kernel_rfl) (fun _ _ _ h => h) (Or.inl ⟨by rfl, ?_⟩) (by assumption) ?_
      rotate_left
      · (intro w hSw; clear hSw; (go_simp <;> with_reducible rfl))
      try simp only [Act.put, List.setIfInBounds_toArray, List.set_cons_zero, List.set_cons_succ]
      refine wpAnyH_take (i := 6) (oi := { dst := some 6, op := Op.assign (Operand.tmp 15), type := 22, pos := _, after := #[{ on := 4, ground := Ground.data }, { on := 5, ground := Ground.chain }, { on := 0, ground := Ground.phase }, { on := 1, ground := Ground.phase }, { on := 2, ground := Ground.phase }, { on := 3, ground := Ground.phase }, { on := 4, ground := Ground.phase }, { on := 5, ground := Ground.phase }], guard := none }) (v := ?_) rfl (by kernel_rfl) (by kernel_rfl) (by kernel_rfl) (fun _ _ _ h => h) (Or.inl ⟨by rfl, ?_⟩) (by assumption) ?_
      rotate_left
      · (intro w hSw; clear hSw; (go_simp <;> with_reducible rfl))
      try simp only [Act.put, List.setIfInBounds_toArray, List.set_cons_zero, List.set_cons_succ]
      refine wpAnyH_done (by kernel_rfl) ?_ _
      clear hHeld
      go_wp2_with fail
      go_meet
      case rel => exact ⟨go, hL, rfl, hO, hgo, hgs, hG⟩
  case rest =>
  obtain ⟨go, hL, rfl, hO, hgo, hgs, hG⟩ := hcut
  clear CC
  obtain ⟨aL, cL, rfl, -, -⟩ := RdR.form (c := inC) (Rd.of_owns hL)
  have hRL := Rd.of_owns hL
  clear hL hgo
  go_wp2_with fail
  refine wp_loop_rounds 1 ?_
  rw [rounds_succ]
  go_wp2_with fail
  refine (contB_c _ _ hRL).mono ?_; rintro e wx ⟨rfl, rfl⟩
  go_wp2_with fail
  go_ret2
  exact ⟨go, rfl, hO, hG⟩
set_option maxRecDepth 100000 in
set_option maxHeartbeats 4000000 in
theorem costA_c (vl vn : Value) (w : World) (hl : RdI w vl [1, -1]) (hn : RdR w 3 lnC vn [(0, 1, 4)]) :
    Calls Try.prog 32 #[vl, vn] w fun e w' => e = .returned (.tuple #[.int .i64 4, .bool true]) ∧ G w w' none := by
  have CL := Lib.hid (leastA_c vl vn w hl hn)
  obtain ⟨an, cn, rfl, -, -⟩ := RdR.form hn
  obtain ⟨bn, on, rfl, hbn, -⟩ := RdR.elem lnC_sz hn (G.refl _ none) (k := 0) (p := (0, 1, 4)) rfl
  go_enter Try.func32, Try.ntmps32
  go_wp2_with fail
  refine CL.out.mono ?_; rintro e w1 ⟨go, rfl, hO, hG⟩
  have n2 := RdR.cell lnC_sz hn hG (k := 0) (p := (0, 1, 4)) rfl 2 (.int .i64 4) rfl
  have o0 : w1.cell? ⟨go, 0, none⟩ = some (.int .i64 1) := hO.cell 0
  simp only [Nat.zero_mul, Nat.zero_add] at n2
  go_wp2_with fail
  refine wp_loop_rounds 2 ?_
  rw [rounds_succ]
  go_wp2_with fail
  rw [rounds_succ]
  go_wp2_with fail
  go_ret2
  exact ⟨rfl, hG⟩
set_option maxRecDepth 100000 in
set_option maxHeartbeats 4000000 in
theorem costB_c (vl vn : Value) (w : World) (hl : RdI w vl [0, 0]) (hn : RdR w 3 lnC vn []) :
    Calls Try.prog 32 #[vl, vn] w fun e w' => e = .returned (.tuple #[.int .i64 0, .bool true]) ∧ G w w' none := by
  have CL := Lib.hid (leastB_c vl vn w hl hn)
  obtain ⟨an, cn, rfl, -, -⟩ := RdR.form hn
  go_enter Try.func32, Try.ntmps32
  go_wp2_with fail
  refine CL.out.mono ?_; rintro e w1 ⟨go, rfl, hO, hG⟩
  go_wp2_with fail
  refine wp_loop_rounds 1 ?_
  rw [rounds_succ]
  go_wp2_with fail
  go_ret2
  exact ⟨rfl, hG⟩
end Go.Proofs.Ytkpmcakppiinlaa

/- shift.Plan at one road: needs, roads, lanes. Written by genpld.py. -/
namespace Go.Proofs.Ytkpmcakppiinlaa
open Go.RowKit

/-- A need: station, how many. -/
abbrev Ne := ByteArray × Int
def neC (x : Ne) : Array Value := #[.string x.1, .int .i64 x.2]
theorem neC_sz (x : Ne) : (neC x).size = 2 := rfl
theorem ne_info (x : Ne) : (Try.prog.info? 50).map (·.size) = some (neC x).size := (by kernel_rfl : (Try.prog.info? 50).map (·.size) = some 2)
def NeOk (l : List Ne) : Prop := ∀ x ∈ l, Small x.1
def neT (x : Ne) : Bool := inB x.2 (-20) 20
def neErr (b : ByteArray) : List Ne → Int
  | [] => 0
  | x :: r => if keyB x.1 = false then 5 else if leB x.1 b = true then 7 else if neT x = false then 1 else neErr x.1 r
def neE (l : List Ne) : Int := if 10 < l.length then 2 else neErr ⟨#[]⟩ l
def NeRel (w : World) (l : List Ne) (v i : Value) (wr : World) : Prop :=
  ∃ (k : Nat) (b : ByteArray), k ≤ l.length ∧ i = .int .i64 k ∧ v = .string b ∧ neErr ⟨#[]⟩ l = neErr b (l.drop k) ∧ G w wr none
theorem neRow {W w : World} {bb bo n cap : Nat} {l : List Ne} (h : RdR W 2 neC (.slice (some ⟨bb, bo, none⟩) n cap) l) (hG : G W w none) {k : Nat} {p : Ne} (hp : l[k]? = some p) :
    ∀ j v, (neC p).toList[j]? = some v → w.cell? ((⟨bb, bo + k * 2, none⟩ : Addr).add j) = some v := fun j v hv => by
  rw [add_at]
  exact RdR.cell neC_sz h hG hp j v hv
set_option maxRecDepth 100000 in
set_option maxHeartbeats 4000000 in
theorem checkNeeds_c (v : Value) (l : List Ne) (w : World) (hr : RdR w 2 neC v l) (hl : NeOk l) (hn : l.length ≤ 1000) :
    Calls Try.prog 45 #[v] w fun e w' => e = .returned (.int .i64 (neE l)) ∧ G w w' none := by
  have HR := Lib.hid hr
  obtain ⟨a, cap, rfl, hcap, hm⟩ := RdR.form hr
  clear hr
  by_cases h30 : 10 < l.length
  · have H := Lib.hid (show neE l = 2 by simp [neE, h30])
    go_enter Try.func45, Try.ntmps45
    go_wp2_with fail
    go_ret
    exact ⟨by rw [H.out]; rfl, G.refl _ _⟩
  · have H := Lib.hid (show neE l = neErr ⟨#[]⟩ l by simp [neE, h30])
    go_enter Try.func45, Try.ntmps45
    go_wp2_with fail
    go_loopw [3, 11] (NeRel w l) (fun _ i _ => l.length - (intOf i).toNat)
    case atStart => exact ⟨0, ⟨#[]⟩, by omega, rfl, rfl, rfl, G.refl _ _⟩
    case round =>
      obtain ⟨k, b, hkl, rfl, rfl, heq, hG⟩ := hrel
      have HE := Lib.hid heq
      clear heq
      by_cases hk : k < l.length
      · obtain ⟨p, hp⟩ : ∃ p, l[k]? = some p := ⟨_, List.getElem?_eq_getElem hk⟩
        have hdrop : l.drop k = p :: l.drop (k + 1) := by rw [List.drop_eq_getElem_cons hk, ← (List.getElem?_eq_some_iff.1 hp).2]
        have hs1 := hl p (List.mem_of_getElem? hp)
        obtain ⟨bb, bo, rfl, -, -⟩ := RdR.elem neC_sz HR.out hG hp
        have HW := Lib.hid (neRow HR.out hG hp)
        unfold Small at hs1
        have HS : Hid (neErr b (l.drop k) = if keyB p.1 = false then 5 else if leB p.1 b = true then 7 else if neT p = false then 1 else neErr p.1 (l.drop (k + 1))) := Lib.hid (by rw [hdrop]; rfl)
        have HK := Lib.hid hk
        have hB5 : Bk (wr.alloc (.cells #[.string p.1, .int .i64 p.2] 50)) wr.heap.size 50 (neC p) := Bk.new _ _ _
        have hG5 := hG.alloc (.cells #[.string p.1, .int .i64 p.2] 50)
        clear hdrop hp hG
        go_wp2_with (refine wpList_load_at rfl 50 _ rfl ⟨bb, bo + k * 2, none⟩ rfl #[.string p.1, .int .i64 p.2] _ HW.out Try.underlying50 rfl (ne_info p) ?_)
        generalize wr.alloc (.cells #[.string p.1, .int .i64 p.2] 50) = w5 at hB5 hG5 ⊢
        generalize wr.heap.size = g at hB5 ⊢
        refine (isKey_c _ _ hs1).mono ?_; rintro e w1 ⟨rfl, rfl⟩
        have c0 : w5.cell? ⟨g, 0, none⟩ = some (.string p.1) := hB5.cell 0
        have c1 : w5.cell? ⟨g, 1, none⟩ = some (.int .i64 p.2) := hB5.cell 1
        cases hkb : keyB p.1 with
        | false =>
          have HF : Hid (neE l = 5) := Lib.hid (by rw [H.out, HE.out, HS.out, if_pos hkb])
          clear hkb
          go_wp2_with fail
          go_ret
          exact ⟨by rw [HF.out]; rfl, hG5⟩
        | true =>
          have HKB := Lib.hid hkb
          clear hkb
          cases hle : leB p.1 b with
          | true =>
            have HF : Hid (neE l = 7) := Lib.hid (by rw [H.out, HE.out, HS.out, if_neg (by simp [HKB.out]), if_pos hle])
            unfold leB at hle
            go_wp2_with fail
            go_ret
            exact ⟨by rw [HF.out]; rfl, hG5⟩
          | false =>
            have HS2 : Hid (neErr ⟨#[]⟩ l = if neT p = false then 1 else neErr p.1 (l.drop (k + 1))) := Lib.hid (by rw [HE.out, HS.out, if_neg (by simp [HKB.out]), if_neg (by simp [hle])])
            unfold leB at hle
            clear HS HE
            go_wp2_with fail
            refine (within_c p.2 (-20) 20 _).mono ?_; rintro e w' ⟨rfl, rfl⟩
            cases k0 : inB p.2 (-20) 20 with
            | false =>
              have HF : Hid (neE l = 1) := Lib.hid (by rw [H.out, HS2.out, if_pos (by simp [neT, k0])])
              clear k0
              go_wp2_with fail
              go_ret
              exact ⟨by rw [HF.out]; rfl, hG5⟩
            | true =>
              have K0 := Lib.hid k0
              clear k0
              have HF : Hid (neErr ⟨#[]⟩ l = neErr p.1 (l.drop (k + 1))) := Lib.hid (by rw [HS2.out, if_neg (by simp [neT, K0.out])])
              go_wp2_with fail
              go_roundw
              case rel => exact ⟨k + 1, p.1, by omega, by go_num, rfl, HF.out, hG5⟩
              case measure => have := HK.out; simp [intOf]; omega
      · obtain rfl : k = l.length := by omega
        have HE2 : Hid (neE l = 0) := Lib.hid (by rw [H.out, HE.out, List.drop_length]; rfl)
        go_wp2_with fail
        go_ret
        exact ⟨by rw [HE2.out]; rfl, hG⟩

/-- A road: from, to, what a car costs, a ride. -/
abbrev Ro := ByteArray × ByteArray × Int × Int
def roC (x : Ro) : Array Value := #[.string x.1, .string x.2.1, .int .i64 x.2.2.1, .int .i64 x.2.2.2]
theorem roC_sz (x : Ro) : (roC x).size = 4 := rfl
theorem ro_info (x : Ro) : (Try.prog.info? 53).map (·.size) = some (roC x).size := (by kernel_rfl : (Try.prog.info? 53).map (·.size) = some 4)
abbrev Wy := ByteArray × ByteArray
def wyC (x : Wy) : Array Value := #[.string x.1, .string x.2]
theorem wy_info (x : Wy) : (Try.prog.info? 98).map (·.size) = some (wyC x).size := (by kernel_rfl : (Try.prog.info? 98).map (·.size) = some 2)
def cmpW (x y : Wy) : Int := orI (cmpI x.1 y.1) (cmpI x.2 y.2)
set_option maxRecDepth 100000 in
set_option maxHeartbeats 1000000 in
theorem compareWays_c (x y : Wy) (w : World) :
    Calls Try.prog 65 #[.agg (wyC x), .agg (wyC y)] w fun e w' => e = .returned (.int .i64 (cmpW x y)) ∧ G w w' none := by
  have hBx := (Bk.new w 98 (wyC x)).alloc (.cells (wyC y) 98)
  have hBy := Bk.newAt (w := w.alloc (.cells (wyC x) 98)) (b := w.heap.size + 1) (by simp) 98 (wyC y)
  have hG := ((G.refl w none).alloc (.cells (wyC x) 98)).alloc (.cells (wyC y) 98)
  have HF : Hid (orI (cmpI x.1 y.1) (cmpI x.2 y.2) = cmpW x y) := Lib.hid rfl
  go_enter Try.func65, Try.ntmps65
  go_wp2_with fail
  generalize ((w.alloc (.cells (wyC x) 98)).alloc (.cells (wyC y) 98)) = w3 at hBx hBy hG ⊢
  have c1 : w3.cell? ⟨w.heap.size, 0, none⟩ = some (.string x.1) := hBx.cell 0
  have c2 : w3.cell? ⟨w.heap.size, 1, none⟩ = some (.string x.2) := hBx.cell 1
  have c3 : w3.cell? ⟨w.heap.size + 1, 0, none⟩ = some (.string y.1) := hBy.cell 0
  have c4 : w3.cell? ⟨w.heap.size + 1, 1, none⟩ = some (.string y.2) := hBy.cell 1
  have hGd := hG.drew
  clear hBx hBy hG
  go_region_held3 (fun w' => w'.cell? ⟨w.heap.size, 0, none⟩ = some (.string x.1) ∧ w'.cell? ⟨w.heap.size, 1, none⟩ = some (.string x.2) ∧ w'.cell? ⟨w.heap.size + 1, 0, none⟩ = some (.string y.1) ∧ w'.cell? ⟨w.heap.size + 1, 1, none⟩ = some (.string y.2)) (first | exact ⟨c1, c2, c3, c4⟩ | go_keep) (first | (go_at_call 52; refine (compare_c _ _ _).mono ?_; rintro e w' ⟨rfl, rfl⟩) | (go_at_call 51; refine (or2_c _ _ _ _ ((Bk.new w3 _ _).quiet ((G.refl _ none).drew))).mono ?_; rintro e w' ⟨rfl, rfl⟩))
  go_wp2_with fail
  go_ret
  exact ⟨ret_int HF.out, hGd.alloc _⟩
theorem roRate_c (n : Int) (w : World) : Calls Try.prog 58 #[.int .i64 n] w fun e w' => e = .returned (.bool (inB n 0 1000000)) ∧ w = w' := by
  go_enter Try.func58, Try.ntmps58
  go_wp2_with fail
  refine (within_c n 0 1000000 _).mono ?_; rintro e w' ⟨rfl, rfl⟩
  go_wp2_with fail
  go_ret
  exact ⟨rfl, rfl⟩
/-- The stations of the one road. -/
def sA : ByteArray := ⟨#[97]⟩
def sB : ByteArray := ⟨#[98]⟩
set_option maxRecDepth 100000 in
set_option maxHeartbeats 2000000 in
theorem wayOf_c (a b : ByteArray) (c d : Int) (w : World) : Calls Try.prog 55 #[.agg #[.string a, .string b, .int .i64 c, .int .i64 d]] w fun e w' => e = .returned (.agg #[.string a, .string b]) ∧ G w w' none := by
  have hB := (Bk.new w 53 #[.string a, .string b, .int .i64 c, .int .i64 d])
  have hG := (G.refl w none).alloc (.cells #[.string a, .string b, .int .i64 c, .int .i64 d] 53)
  go_enter Try.func55, Try.ntmps55
  go_wp2_with fail
  refine bodyPost_ret (results_cell_row rfl _ _ (w.heap.size + 1) 98 #[.string a, .string b] (0, 0) _ rfl (Bk.newAt (by simp) _ _) Try.underlying98 rfl (wy_info (a, b))) rfl ?_
  exact ⟨rfl, hG.alloc _⟩
set_option maxRecDepth 100000 in
set_option maxHeartbeats 2000000 in
theorem isRight_c (a b : ByteArray) (c d : Int) (hc : inB c 0 1000000 = true) (w : World) : Calls Try.prog 57 #[.agg #[.string a, .string b, .int .i64 c, .int .i64 d]] w fun e w' => e = .returned (.bool (inB d 0 1000000)) ∧ G w w' none := by
  have hB := (Bk.new w 53 #[.string a, .string b, .int .i64 c, .int .i64 d])
  have hG := (G.refl w none).alloc (.cells #[.string a, .string b, .int .i64 c, .int .i64 d] 53)
  go_enter Try.func57, Try.ntmps57
  go_upto_region 1 with fail
  generalize w.alloc (.cells #[.string a, .string b, .int .i64 c, .int .i64 d] 53) = w1 at hB hG ⊢
  generalize w.heap.size = g at hB ⊢
  have c2 : w1.cell? ⟨g, 2, none⟩ = some (.int .i64 c) := hB.cell 2
  have c3 : w1.cell? ⟨g, 3, none⟩ = some (.int .i64 d) := hB.cell 3
  go_wp2_with fail
  refine (roRate_c _ _).mono ?_; rintro e w' ⟨rfl, rfl⟩
  rw [hc]
  go_wp2_with fail
  refine (roRate_c _ _).mono ?_; rintro e w' ⟨rfl, rfl⟩
  go_wp2_with fail
  go_ret
  exact ⟨rfl, hG⟩
set_option maxRecDepth 100000 in
set_option maxHeartbeats 4000000 in
theorem manyOf_c (v : Value) (a b : ByteArray) (w : World) (hr : RdR w 2 neC v [(a, 1), (b, -1)]) :
    Calls Try.prog 30 #[v] w fun e w' => ∃ g, e = .returned (.slice (some ⟨g, 0, none⟩) 2 2) ∧ w.heap.size ≤ g ∧ Bk w' g 3 #[.int .i64 1, .int .i64 (-1)] ∧ G w w' none := by
  have hmk : ∀ w : World, (Instr.makeSlice 22 (.int .i64 2) (.int .i64 2)).run Try.prog w = .ok (.slice (some ⟨w.heap.size, 0, none⟩) 2 2) (w.alloc (.cells #[.int .i64 0, .int .i64 0] 3)) := fun w => by kernel_rfl
  obtain ⟨bb, bo, cap, e⟩ : ∃ bb bo cap, v = .slice (some ⟨bb, bo, none⟩) 2 cap := by
    obtain ⟨al, cl, rfl, -, -⟩ := RdR.form hr
    obtain ⟨bb, bo, rfl, -, -⟩ := RdR.elem neC_sz hr (G.refl w none) (k := 0) (p := (a, 1)) rfl
    exact ⟨bb, bo, cl, rfl⟩
  subst e
  have hcell : Hid (∀ w', G w w' none → w'.cell? ⟨bb, bo, none⟩ = some (.string a) ∧ w'.cell? ⟨bb, bo + 1, none⟩ = some (.int .i64 1) ∧ w'.cell? ⟨bb, bo + 2, none⟩ = some (.string b) ∧ w'.cell? ⟨bb, bo + 3, none⟩ = some (.int .i64 (-1))) := Lib.hid (fun w' h => by
    have e0 := RdR.cell neC_sz hr h (k := 0) (p := (a, 1)) rfl 0 (.string a) rfl
    have e1 := RdR.cell neC_sz hr h (k := 0) (p := (a, 1)) rfl 1 (.int .i64 1) rfl
    have e2 := RdR.cell neC_sz hr h (k := 1) (p := (b, -1)) rfl 0 (.string b) rfl
    have e3 := RdR.cell neC_sz hr h (k := 1) (p := (b, -1)) rfl 1 (.int .i64 (-1)) rfl
    simp only [Nat.zero_mul, Nat.one_mul, Nat.add_zero] at e0 e1 e2 e3
    exact ⟨e0, e1, e2, e3⟩)
  clear hr
  go_enter Try.func30, Try.ntmps30
  go_upto_region 2 with fail
  have hB := Bk.new w 3 #[.int .i64 0, .int .i64 0]
  have hG := (G.refl w none).alloc (.cells #[.int .i64 0, .int .i64 0] 3)
  generalize w.alloc (.cells #[.int .i64 0, .int .i64 0] 3) = w1 at hB hG ⊢
  obtain ⟨g, hg⟩ : ∃ g, w.heap.size = g := ⟨_, rfl⟩
  have hgs : w.heap.size ≤ g := by omega
  rw [hg] at hB ⊢
  clear hg
  go_wp2_with fail
  refine wp_loop_rounds 3 ?_
  rw [rounds_succ]
  obtain ⟨e0, e1, e2, e3⟩ := hcell.out _ hG
  have b0 : w1.cell? ⟨g, 0, none⟩ = some (.int .i64 0) := hB.cell 0
  have f0 : w1.frozen? ⟨g, 0, none⟩ = false := hB.free 0
  go_upto_region 5 with fail
  have hN := Bk.new w1 50 #[.string a, .int .i64 1]
  have hgN : g < w1.heap.size := hB.lt
  replace hB := hB.alloc (.cells #[.string a, .int .i64 1] 50)
  replace hG := hG.alloc (.cells #[.string a, .int .i64 1] 50)
  clear e0 e1 e2 e3 b0 f0
  generalize w1.alloc (.cells #[.string a, .int .i64 1] 50) = wn0 at hN hB hG ⊢
  generalize w1.heap.size = n at hN hgN ⊢
  have n1 : wn0.cell? ⟨n, 1, none⟩ = some (.int .i64 1) := hN.cell 1
  have b0 : wn0.cell? ⟨g, 0, none⟩ = some (.int .i64 0) := hB.cell 0
  have f0 : wn0.frozen? ⟨g, 0, none⟩ = false := hB.free 0
  go_wp2_with fail
  replace hB := hB.set 0 (.int .i64 1)
  replace hG := hG.setCell (p := ⟨g, 0, none⟩) (.inl hgs) (.int .i64 1)
  clear n1 b0 f0 hN hgN
  generalize wn0.setCell ⟨g, 0, none⟩ (.int .i64 1) = wz0 at hB hG ⊢
  rw [rounds_succ]
  obtain ⟨e0, e1, e2, e3⟩ := hcell.out _ hG
  have b0 : wz0.cell? ⟨g, 1, none⟩ = some (.int .i64 0) := hB.cell 1
  have f0 : wz0.frozen? ⟨g, 1, none⟩ = false := hB.free 1
  go_upto_region 5 with fail
  have hN := Bk.new wz0 50 #[.string b, .int .i64 (-1)]
  have hgN : g < wz0.heap.size := hB.lt
  replace hB := hB.alloc (.cells #[.string b, .int .i64 (-1)] 50)
  replace hG := hG.alloc (.cells #[.string b, .int .i64 (-1)] 50)
  clear e0 e1 e2 e3 b0 f0
  generalize wz0.alloc (.cells #[.string b, .int .i64 (-1)] 50) = wn1 at hN hB hG ⊢
  generalize wz0.heap.size = n at hN hgN ⊢
  have n1 : wn1.cell? ⟨n, 1, none⟩ = some (.int .i64 (-1)) := hN.cell 1
  have b0 : wn1.cell? ⟨g, 1, none⟩ = some (.int .i64 0) := hB.cell 1
  have f0 : wn1.frozen? ⟨g, 1, none⟩ = false := hB.free 1
  go_wp2_with fail
  replace hB := hB.set 1 (.int .i64 (-1))
  replace hG := hG.setCell (p := ⟨g, 1, none⟩) (.inl hgs) (.int .i64 (-1))
  clear n1 b0 f0 hN hgN
  generalize wn1.setCell ⟨g, 1, none⟩ (.int .i64 (-1)) = wz1 at hB hG ⊢
  rw [rounds_succ]
  go_wp2_with fail
  go_ret
  exact ⟨g, rfl, hgs, hB, hG⟩
end Go.Proofs.Ytkpmcakppiinlaa

/- A slice of a slice, from a place on. -/
namespace Go.Proofs.Ytkpmcakppiinlaa
open Go.RowKit

theorem RdR.dropQ {α : Type} {w : World} {z : Nat} {c : α → Array Value} {bb bo n cap : Nat} {l : List α} (hz : ∀ p, (c p).size = z) (h : RdR w z c (.slice (some ⟨bb, bo, none⟩) n cap) l) (k : Nat) (hk : k ≤ l.length) :
    RdR w z c (.slice (if cap = k then some ⟨bb, bo, none⟩ else some ⟨bb, bo + k * z, none⟩) (n - k) (cap - k)) (l.drop k) := by
  obtain ⟨a', c', e, h1, h2, h3, h4, h5⟩ := h
  cases e
  have hlen : (l.drop k).length = l.length - k := List.length_drop
  refine ⟨_, _, by rw [hlen], by omega, by omega, rowL_len hz _, fun e => ?_, fun b hb => ?_⟩
  · split at e <;> simp at e
  · obtain ⟨q1, q2, q3⟩ := h5 _ rfl
    by_cases hc : cap = k
    · rw [if_pos hc] at hb
      cases hb
      have hl0 : l.drop k = [] := List.eq_nil_of_length_eq_zero (by omega)
      exact ⟨q1, q2, fun j u hj => by rw [hl0] at hj; simp [rowL] at hj⟩
    · rw [if_neg hc] at hb
      cases hb
      refine ⟨rfl, q2, fun j u hj => ?_⟩
      have e2 : rowL c l = rowL c (l.take k) ++ rowL c (l.drop k) := by
        unfold rowL
        rw [← List.flatMap_append, List.take_append_drop]
      have hlk : (rowL c (l.take k)).length = k * z := by rw [rowL_len hz, List.length_take, Nat.min_eq_left hk]
      have := q3 (k * z + j) u (by rw [e2, List.getElem?_append_right (by omega), hlk, show k * z + j - k * z = j by omega]; exact hj)
      dsimp only at this ⊢
      rw [show bo + k * z + j = bo + (k * z + j) by omega]
      exact this
end Go.Proofs.Ytkpmcakppiinlaa

/- shift.Plan at one road: firstLoad. Written by genplb.py. -/
namespace Go.Proofs.Ytkpmcakppiinlaa
open Go.RowKit

set_option maxRecDepth 100000 in
set_option maxHeartbeats 4000000 in
theorem first_c (vl vn : Value) (w : World) (hl : RdI w vl [1, -1]) (hn : RdR w 3 lnC vn [(0, 1, 4)]) :
    Calls Try.prog 33 #[vl, vn, .int .i64 4] w fun e w' => e = .returned (.int .i64 1) ∧ G w w' none := by
  have CC := Lib.hid (cloneIn_c vl _ w hl (by simp))
  obtain ⟨an, cn, rfl, hcn, -⟩ := RdR.form hn
  obtain ⟨bn, on, rfl, hbn, -⟩ := RdR.elem lnC_sz hn (G.refl _ none) (k := 0) (p := (0, 1, 4)) rfl
  go_enter Try.func33, Try.ntmps33
  go_wp2_with fail
  refine CC.out.mono ?_; rintro e w1 ⟨vL, rfl, hL, hG⟩
  obtain ⟨gl, cL, cur, e, hBL⟩ := OwnX.form0 hL (by simp)
  subst e
  have n0 := RdR.cell lnC_sz hn hG (k := 0) (p := (0, 1, 4)) rfl 0 (.int .i64 0) rfl
  have n1 := RdR.cell lnC_sz hn hG (k := 0) (p := (0, 1, 4)) rfl 1 (.int .i64 1) rfl
  have n2 := RdR.cell lnC_sz hn hG (k := 0) (p := (0, 1, 4)) rfl 2 (.int .i64 4) rfl
  simp only [Nat.zero_mul, Nat.one_mul, Nat.add_zero, Nat.zero_add] at n0 n1 n2
  go_upto_region 3 with fail
  have hN := Bk.new w1 70 #[.int .i64 0, .int .i64 1, .int .i64 4]
  replace hL := OwnX.alloc hL (.cells #[.int .i64 0, .int .i64 1, .int .i64 4] 70)
  have hlt := hBL.lt
  replace hBL := hBL.alloc (.cells #[.int .i64 0, .int .i64 1, .int .i64 4] 70)
  replace hG := hG.alloc (.cells #[.int .i64 0, .int .i64 1, .int .i64 4] 70)
  clear n0 n1 n2
  generalize w1.alloc (.cells #[.int .i64 0, .int .i64 1, .int .i64 4] 70) = w2 at hN hL hBL hG ⊢
  generalize w1.heap.size = n at hN hlt ⊢
  have m0 : w2.cell? ⟨n, 0, none⟩ = some (.int .i64 0) := hN.cell 0
  have m1 : w2.cell? ⟨n, 1, none⟩ = some (.int .i64 1) := hN.cell 1
  have m2 : w2.cell? ⟨n, 2, none⟩ = some (.int .i64 4) := hN.cell 2
  have l0 := RdR.cell inC_sz (Rd.of_owns hL) (G.refl _ none) (k := 0) (p := 1) rfl 0 (.int .i64 1) rfl
  have l1 := RdR.cell inC_sz (Rd.of_owns hL) (G.refl _ none) (k := 1) (p := -1) rfl 0 (.int .i64 (-1)) rfl
  simp only [Nat.zero_mul, Nat.one_mul, Nat.add_zero, Nat.zero_add] at l0 l1
  have f0 := hBL.free 0
  have f1 := hBL.free 1
  have hgl : w.heap.size ≤ gl := OwnX.low hL gl rfl
  have hng : n ≠ gl := by omega
  have k1 := OwnX.set inC_sz hL (k := 0) (p := 1) rfl (q := 0) 0 (.int .i64 0) (by omega) rfl
  have k2 := OwnX.set (l := [0, -1]) inC_sz k1 (k := 1) (p := -1) rfl (q := 0) 0 (.int .i64 0) (by omega) rfl
  have k4 : RdI ((w2.setCell ⟨gl, 0, none⟩ (.int .i64 0)).setCell ⟨gl, 1, none⟩ (.int .i64 0)) (.slice (some ⟨gl, 0, none⟩) 2 cL) [0, 0] := Rd.of_owns k2
  have hG3 := (hG.setCell (p := ⟨gl, 0, none⟩) (.inl hgl) (.int .i64 0)).setCell (p := ⟨gl, 1, none⟩) (.inl hgl) (.int .i64 0)
  have hN3 := (hN.far (p := ⟨gl, 0, none⟩) hng (.int .i64 0)).far (p := ⟨gl, 1, none⟩) hng (.int .i64 0)
  have hD := RdR.dropQ lnC_sz (hn.quiet hG3) 1 (by simp)
  clear k1 k2 hL hBL hN
  by_cases hc1 : cn = 1
  · subst hc1
    rw [if_pos rfl] at hD
    go_wp2_with fail
    refine wp_loop_rounds 1 ?_
    rw [rounds_succ]
    go_wp2_with fail
    refine (costB_c _ _ _ k4 hD).mono ?_; rintro e w3 ⟨rfl, hh⟩
    have m2 : w3.cell? ⟨n, 2, none⟩ = some (.int .i64 4) := (hN3.quiet hh).cell 2
    go_wp2_with fail
    go_ret
    exact ⟨rfl, hG3.trans hh⟩
  · rw [if_neg hc1] at hD
    go_wp2_with fail
    refine wp_loop_rounds 1 ?_
    rw [rounds_succ]
    go_wp2_with fail
    refine (costB_c _ _ _ k4 hD).mono ?_; rintro e w3 ⟨rfl, hh⟩
    have m2 : w3.cell? ⟨n, 2, none⟩ = some (.int .i64 4) := (hN3.quiet hh).cell 2
    go_wp2_with fail
    go_ret
    exact ⟨rfl, hG3.trans hh⟩
end Go.Proofs.Ytkpmcakppiinlaa

/- shift.Plan at one road: CheckRoads, the lanes, the plan. Written by genple.py. -/
namespace Go.Proofs.Ytkpmcakppiinlaa
open Go.RowKit

set_option maxRecDepth 100000 in
set_option maxHeartbeats 4000000 in
theorem checkWays_c (v : Value) (w : World) (hr : RdR w 4 roC v [(sA, sB, 4, 0)]) :
    Calls Try.prog 56 #[v, .func (.func 55) #[] #[], .func (.func 57) #[] #[]] w fun e w' => e = .returned (.int .i64 0) ∧ G w w' none := by
  have hG := G.refl w none
  obtain ⟨al, cl, rfl, -, -⟩ := RdR.form hr
  obtain ⟨bb, bo, rfl, -, -⟩ := RdR.elem roC_sz hr hG (k := 0) (p := (sA, sB, 4, 0)) rfl
  have hcell : Hid (∀ w', G w w' none → w'.cell? ⟨bb, bo, none⟩ = some (.string sA) ∧ w'.cell? ⟨bb, bo + 1, none⟩ = some (.string sB) ∧ w'.cell? ⟨bb, bo + 2, none⟩ = some (.int .i64 4) ∧ w'.cell? ⟨bb, bo + 3, none⟩ = some (.int .i64 0)) := Lib.hid (fun w' h => by
    have e0 := RdR.cell roC_sz hr h (k := 0) (p := (sA, sB, 4, 0)) rfl 0 (.string sA) rfl
    have e1 := RdR.cell roC_sz hr h (k := 0) (p := (sA, sB, 4, 0)) rfl 1 (.string sB) rfl
    have e2 := RdR.cell roC_sz hr h (k := 0) (p := (sA, sB, 4, 0)) rfl 2 (.int .i64 4) rfl
    have e3 := RdR.cell roC_sz hr h (k := 0) (p := (sA, sB, 4, 0)) rfl 3 (.int .i64 0) rfl
    simp only [Nat.zero_mul, Nat.add_zero] at e0 e1 e2 e3
    exact ⟨e0, e1, e2, e3⟩)
  have HkA : Hid (keyB sA = true) := Lib.hid (by decide)
  have HkB : Hid (keyB sB = true) := Lib.hid (by decide)
  have hne : (sA == sB) = false := by decide
  have hne2 : (sA.toList == sB.toList) = false := by kernel_rfl
  have HcW : Hid (cmpW (sA, sB) (⟨#[]⟩, ⟨#[]⟩) = 1) := Lib.hid (by decide)
  have HiR : Hid (inB 0 0 1000000 = true) := Lib.hid (by decide)
  have CW := Lib.hid (wayOf_c sA sB 4 0)
  have CR := Lib.hid (isRight_c sA sB 4 0 (by decide))
  have CC := Lib.hid (compareWays_c (sA, sB) (⟨#[]⟩, ⟨#[]⟩))
  have CA := Lib.hid (fun w => isKey_c sA w (by decide))
  have CB := Lib.hid (fun w => isKey_c sB w (by decide))
  clear hr
  generalize sA = a at hcell HkA hne hne2 HcW CW CR CC CA ⊢
  generalize sB = b at hcell HkB hne hne2 HcW CW CR CC CB ⊢
  go_enter Try.func56, Try.ntmps56
  go_upto_region 4 with fail
  have hZ := Bk.new w 98 #[.string ⟨#[]⟩, .string ⟨#[]⟩]
  replace hG := hG.alloc (.cells #[.string ⟨#[]⟩, .string ⟨#[]⟩] 98)
  generalize w.alloc (.cells #[.string ⟨#[]⟩, .string ⟨#[]⟩] 98) = w1 at hZ hG ⊢
  obtain ⟨g, hg⟩ : ∃ g, w.heap.size = g := ⟨_, rfl⟩
  have hgs : w.heap.size ≤ g := by omega
  rw [hg] at hZ ⊢
  clear hg
  go_wp2_with fail
  refine wp_loop_rounds 2 ?_
  rw [rounds_succ]
  obtain ⟨e0, e1, e2, e3⟩ := hcell.out _ hG
  go_upto_region 7 with fail
  have hN := Bk.new w1 53 #[.string a, .string b, .int .i64 4, .int .i64 0]
  replace hZ := hZ.alloc (.cells #[.string a, .string b, .int .i64 4, .int .i64 0] 53)
  replace hG := hG.alloc (.cells #[.string a, .string b, .int .i64 4, .int .i64 0] 53)
  clear e0 e1 e2 e3
  generalize w1.alloc (.cells #[.string a, .string b, .int .i64 4, .int .i64 0] 53) = w2 at hN hZ hG ⊢
  generalize w1.heap.size = n at hN ⊢
  have n0 : w2.cell? ⟨n, 0, none⟩ = some (.string a) := hN.cell 0
  have n1 : w2.cell? ⟨n, 1, none⟩ = some (.string b) := hN.cell 1
  have n2 : w2.cell? ⟨n, 2, none⟩ = some (.int .i64 4) := hN.cell 2
  have n3 : w2.cell? ⟨n, 3, none⟩ = some (.int .i64 0) := hN.cell 3
  go_wp2_with fail
  refine (CW.out _).mono ?_; rintro e w3 ⟨rfl, hh⟩
  replace hN := hN.quiet hh
  replace hZ := hZ.quiet hh
  replace hG := hG.trans hh
  clear hh n0 n1 n2 n3
  go_upto_region 8 with fail
  have hM := Bk.new w3 98 #[.string a, .string b]
  have hgM : g < w3.heap.size := hZ.lt
  replace hN := hN.alloc (.cells #[.string a, .string b] 98)
  replace hZ := hZ.alloc (.cells #[.string a, .string b] 98)
  replace hG := hG.alloc (.cells #[.string a, .string b] 98)
  generalize w3.alloc (.cells #[.string a, .string b] 98) = w4 at hM hN hZ hG ⊢
  generalize w3.heap.size = m at hM hgM ⊢
  have m0 : w4.cell? ⟨m, 0, none⟩ = some (.string a) := hM.cell 0
  have m1 : w4.cell? ⟨m, 1, none⟩ = some (.string b) := hM.cell 1
  have z0 : w4.cell? ⟨g, 0, none⟩ = some (.string ⟨#[]⟩) := hZ.cell 0
  have z1 : w4.cell? ⟨g, 1, none⟩ = some (.string ⟨#[]⟩) := hZ.cell 1
  go_wp2_with fail
  refine (CA.out _).mono ?_; rintro e w' ⟨rfl, rfl⟩
  rw [HkA.out]
  go_wp2_with fail
  refine (CB.out _).mono ?_; rintro e w' ⟨rfl, rfl⟩
  rw [HkB.out]
  go_wp2_with fail
  refine (CC.out _).mono ?_; rintro e w5 ⟨rfl, hh⟩
  rw [HcW.out]
  replace hM := hM.quiet hh
  replace hN := hN.quiet hh
  replace hZ := hZ.quiet hh
  replace hG := hG.trans hh
  clear hh m0 m1 z0 z1
  have n0 : w5.cell? ⟨n, 0, none⟩ = some (.string a) := hN.cell 0
  have n1 : w5.cell? ⟨n, 1, none⟩ = some (.string b) := hN.cell 1
  have n2 : w5.cell? ⟨n, 2, none⟩ = some (.int .i64 4) := hN.cell 2
  have n3 : w5.cell? ⟨n, 3, none⟩ = some (.int .i64 0) := hN.cell 3
  go_wp2_with fail
  refine (CR.out _).mono ?_; rintro e w6 ⟨rfl, hh⟩
  rw [HiR.out]
  replace hM := hM.quiet hh
  replace hZ := hZ.quiet hh
  replace hG := hG.trans hh
  clear hh n0 n1 n2 n3 hN
  have m0 : w6.cell? ⟨m, 0, none⟩ = some (.string a) := hM.cell 0
  have m1 : w6.cell? ⟨m, 1, none⟩ = some (.string b) := hM.cell 1
  have z0 : w6.cell? ⟨g, 0, none⟩ = some (.string ⟨#[]⟩) := hZ.cell 0
  have z1 : w6.cell? ⟨g, 1, none⟩ = some (.string ⟨#[]⟩) := hZ.cell 1
  have f0 : w6.frozen? ⟨g, 0, none⟩ = false := hZ.free 0
  have f1 : w6.frozen? ⟨g, 1, none⟩ = false := hZ.free 1
  go_wp2_with fail
  rw [rounds_succ]
  go_wp2_with fail
  go_ret
  exact ⟨rfl, (hG.setCell (p := ⟨g, 0, none⟩) (.inl hgs) _).setCell (p := ⟨g, 1, none⟩) (.inl hgs) _⟩
theorem checkRoads_c (v : Value) (w : World) (hr : RdR w 4 roC v [(sA, sB, 4, 0)]) :
    Calls Try.prog 46 #[v] w fun e w' => e = .returned (.int .i64 0) ∧ G w w' none := by
  go_enter Try.func46, Try.ntmps46
  go_wp2_with fail
  refine (checkWays_c v w hr).mono ?_; rintro e w1 ⟨rfl, hG⟩
  go_wp2_with fail
  go_ret
  exact ⟨rfl, hG⟩
theorem checkOffice_c (v u : Value) (w : World) (hr : RdR w 2 neC v [(sA, 1), (sB, -1)]) (hs : RdR w 4 roC u [(sA, sB, 4, 0)]) :
    Calls Try.prog 29 #[v, u] w fun e w' => e = .returned (.int .i64 0) ∧ G w w' none := by
  have HE : Hid (neE [(sA, 1), (sB, -1)] = 0) := Lib.hid (by
    have h1 : keyB sA = true := by decide
    have h2 : keyB sB = true := by decide
    have h3 : leB sA ⟨#[]⟩ = false := by kernel_rfl
    have h4 : leB sB sA = false := by kernel_rfl
    simp [neE, neErr, neT, inB, h1, h2, h3, h4])
  have CN := Lib.hid (checkNeeds_c v _ w hr (fun x hx => by
    simp only [List.mem_cons, List.not_mem_nil, or_false] at hx
    rcases hx with rfl | rfl
    · show Small sA; unfold Small; decide
    · show Small sB; unfold Small; decide) (by simp))
  go_enter Try.func29, Try.ntmps29
  go_wp2_with fail
  refine CN.out.mono ?_; rintro e w1 ⟨rfl, hG⟩
  rw [HE.out]
  go_wp2_with fail
  refine (checkRoads_c u w1 (hs.quiet hG)).mono ?_; rintro e w2 ⟨rfl, hh⟩
  have hG2 := hG.trans hh
  go_wp2_with fail
  go_ret
  exact ⟨rfl, hG2⟩
end Go.Proofs.Ytkpmcakppiinlaa

/- shift.Plan at one road: the lanes, the plan. Written by genplf.py. -/
namespace Go.Proofs.Ytkpmcakppiinlaa
open Go.RowKit

theorem ln_rowOk : RowOk Try.prog 70 65 3 24 (.agg #[.int .i64 0, .int .i64 0, .int .i64 0]) lnC := ⟨by kernel_rfl, Try.underlying65, fun r u hu => by simp [lnC] at hu; rcases hu with rfl | rfl | rfl <;> rfl, lnC_sz, rfl, by omega, by omega⟩
theorem zi_run3 (w : World) : (zeroValue 3).run Try.prog w = .ok (.int .i64 0) w := by kernel_rfl
set_option maxRecDepth 100000 in
set_option maxHeartbeats 4000000 in
theorem lanes_c (v u : Value) (w : World) (hr : RdR w 2 neC v [(sA, 1), (sB, -1)]) (hs : RdR w 4 roC u [(sA, sB, 4, 0)]) :
    Calls Try.prog 31 #[v, u] w fun e w' => ∃ v', e = .returned v' ∧ RdR w' 3 lnC v' [(0, 1, 4)] ∧ G w w' none := by
  have hmm : ∀ w : World, (Instr.makeMap 88 (some (.int .i64 2))).run Try.prog w = .ok (.map (some w.heap.size)) (w.alloc (.map #[] 0)) := fun _ => rfl
  have hG := G.refl w none
  obtain ⟨al, cl, rfl, -, -⟩ := RdR.form hr
  obtain ⟨bb, bo, rfl, -, -⟩ := RdR.elem neC_sz hr hG (k := 0) (p := (sA, 1)) rfl
  obtain ⟨al, cu, rfl, -, -⟩ := RdR.form hs
  obtain ⟨br, oR, rfl, -, -⟩ := RdR.elem roC_sz hs hG (k := 0) (p := (sA, sB, 4, 0)) rfl
  have hcell : Hid (∀ w', G w w' none → (w'.cell? ⟨bb, bo, none⟩ = some (.string sA) ∧ w'.cell? ⟨bb, bo + 1, none⟩ = some (.int .i64 1) ∧ w'.cell? ⟨bb, bo + 2, none⟩ = some (.string sB) ∧ w'.cell? ⟨bb, bo + 2 + 1, none⟩ = some (.int .i64 (-1))) ∧ w'.cell? ⟨br, oR, none⟩ = some (.string sA) ∧ w'.cell? ⟨br, oR + 1, none⟩ = some (.string sB) ∧ w'.cell? ⟨br, oR + 2, none⟩ = some (.int .i64 4) ∧ w'.cell? ⟨br, oR + 3, none⟩ = some (.int .i64 0)) := Lib.hid (fun w' h => by
    have e0 := RdR.cell neC_sz hr h (k := 0) (p := (sA, 1)) rfl 0 (.string sA) rfl
    have e1 := RdR.cell neC_sz hr h (k := 0) (p := (sA, 1)) rfl 1 (.int .i64 1) rfl
    have e2 := RdR.cell neC_sz hr h (k := 1) (p := (sB, -1)) rfl 0 (.string sB) rfl
    have e3 := RdR.cell neC_sz hr h (k := 1) (p := (sB, -1)) rfl 1 (.int .i64 (-1)) rfl
    have e4 := RdR.cell roC_sz hs h (k := 0) (p := (sA, sB, 4, 0)) rfl 0 (.string sA) rfl
    have e5 := RdR.cell roC_sz hs h (k := 0) (p := (sA, sB, 4, 0)) rfl 1 (.string sB) rfl
    have e6 := RdR.cell roC_sz hs h (k := 0) (p := (sA, sB, 4, 0)) rfl 2 (.int .i64 4) rfl
    have e7 := RdR.cell roC_sz hs h (k := 0) (p := (sA, sB, 4, 0)) rfl 3 (.int .i64 0) rfl
    simp only [Nat.zero_mul, Nat.one_mul, Nat.add_zero] at e0 e1 e2 e3 e4 e5 e6 e7
    exact ⟨⟨e0, e1, e2, e3⟩, e4, e5, e6, e7⟩)
  have hsa : sA.size ≤ maxLen := by decide
  have hsb : sB.size ≤ maxLen := by decide
  have HN : Hid (¬ sA = sB) := Lib.hid (by decide)
  clear hr hs
  generalize sA = a at hcell hsa HN ⊢
  generalize sB = b at hcell hsb HN ⊢
  go_enter Try.func31, Try.ntmps31
  go_upto_region 2 with fail
  have hM : OwnM Try.prog 9 (w.alloc (.map #[] 0)) w.heap.size 0 (fun _ => none) := OwnM.made _ _ _ rfl
  replace hG := hG.alloc (.map #[] 0)
  generalize w.alloc (.map #[] 0) = w1 at hM hG ⊢
  obtain ⟨g, hg⟩ : ∃ g, w.heap.size = g := ⟨_, rfl⟩
  have hgs : w.heap.size ≤ g := by omega
  rw [hg] at hM ⊢
  clear hg
  go_wp2_with fail
  refine wp_loop_rounds 3 ?_
  rw [rounds_succ]
  obtain ⟨⟨e0, e1, e2, e3⟩, -⟩ := hcell.out _ hG
  go_upto_region 5 with fail
  have hN := Bk.new w1 50 #[.string a, .int .i64 1]
  replace hM := hM.alloc (.cells #[.string a, .int .i64 1] 50)
  replace hG := hG.alloc (.cells #[.string a, .int .i64 1] 50)
  clear e0 e1 e2 e3
  generalize w1.alloc (.cells #[.string a, .int .i64 1] 50) = wn0 at hN hM hG ⊢
  generalize w1.heap.size = n at hN ⊢
  have n0 : wn0.cell? ⟨n, 0, none⟩ = some (.string a) := hN.cell 0
  go_wp2_with (at_mapUpdate; refine wpM_store rfl _ _ _ 88 rfl 9 3 Try.underlying9 Try.underlying88 g _ _ rfl hM (by first | decide | (unfold cput; split <;> decide)) a rfl hsa (.int .i64 0) rfl ?_; intro wz0 hM0 hh0)
  clear hM hN n0
  have hM := hM0
  replace hG := hG.other hh0 (fun j e => .inl (by obtain rfl := Option.some.inj e; exact hgs))
  clear hM0 hh0
  rw [rounds_succ]
  obtain ⟨⟨e0, e1, e2, e3⟩, -⟩ := hcell.out _ hG
  go_upto_region 5 with fail
  have hN := Bk.new wz0 50 #[.string b, .int .i64 (-1)]
  replace hM := hM.alloc (.cells #[.string b, .int .i64 (-1)] 50)
  replace hG := hG.alloc (.cells #[.string b, .int .i64 (-1)] 50)
  clear e0 e1 e2 e3
  generalize wz0.alloc (.cells #[.string b, .int .i64 (-1)] 50) = wn1 at hN hM hG ⊢
  generalize wz0.heap.size = n at hN ⊢
  have n0 : wn1.cell? ⟨n, 0, none⟩ = some (.string b) := hN.cell 0
  go_wp2_with (at_mapUpdate; refine wpM_store rfl _ _ _ 88 rfl 9 3 Try.underlying9 Try.underlying88 g _ _ rfl hM (by first | decide | (unfold cput; split <;> decide)) b rfl hsb (.int .i64 1) rfl ?_; intro wz1 hM1 hh1)
  clear hM hN n0
  have hM := hM1
  replace hG := hG.other hh1 (fun j e => .inl (by obtain rfl := Option.some.inj e; exact hgs))
  clear hM1 hh1
  rw [rounds_succ]
  go_wp2_with fail
  have hfa : (fput (fput (fun _ => none) a (.int .i64 0)) b (.int .i64 1)) a = some (.int .i64 0) := by unfold fput; rw [if_neg HN.out, if_pos rfl]
  have hfb : (fput (fput (fun _ => none) a (.int .i64 0)) b (.int .i64 1)) b = some (.int .i64 1) := by unfold fput; rw [if_pos rfl]
  generalize fput (fput (fun _ => none) a (.int .i64 0)) b (.int .i64 1) = F at hM hfa hfb
  generalize cput (cput 0 (fun _ => none) a) (fput (fun _ => none) a (.int .i64 0)) b = cM at hM
  refine wp_loop_rounds 2 ?_
  rw [rounds_succ]
  obtain ⟨-, e4, e5, e6, e7⟩ := hcell.out _ hG
  go_upto_region 11 with fail
  have hN := Bk.new wz1 53 #[.string a, .string b, .int .i64 4, .int .i64 0]
  replace hM := hM.alloc (.cells #[.string a, .string b, .int .i64 4, .int .i64 0] 53)
  replace hG := hG.alloc (.cells #[.string a, .string b, .int .i64 4, .int .i64 0] 53)
  clear e4 e5 e6 e7
  generalize wz1.alloc (.cells #[.string a, .string b, .int .i64 4, .int .i64 0] 53) = w2 at hN hM hG ⊢
  generalize wz1.heap.size = n at hN ⊢
  have n0 : w2.cell? ⟨n, 0, none⟩ = some (.string a) := hN.cell 0
  have n1 : w2.cell? ⟨n, 1, none⟩ = some (.string b) := hN.cell 1
  have n2 : w2.cell? ⟨n, 2, none⟩ = some (.int .i64 4) := hN.cell 2
  obtain ⟨⟨e0, e1, e2, e3⟩, -⟩ := hcell.out _ hG
  go_upto_region 14 with (at_lookup; first | (refine wpM_look_ok rfl _ _ 88 rfl 9 3 Try.underlying9 Try.underlying88 (.int .i64 0) (zi_run3 _) g cM F rfl hM a rfl hsa ?_; rw [hfa]) | (refine wpM_look_ok rfl _ _ 88 rfl 9 3 Try.underlying9 Try.underlying88 (.int .i64 0) (zi_run3 _) g cM F rfl hM b rfl hsb ?_; rw [hfb]))
  have hsz := hG.size
  go_wp2_with (at_builtin; refine wpList_plain rfl fun K' hK' => wp_append_x ln_rowOk _ _ rfl w.heap.size (.slice none 0 0) [] rfl (World.ownsRow_nil _ _ _ _) w2.heap.size (0, 1, 4) rfl (Bk.new w2 _ _) (by simp) (by simp; omega) ?_; intro v8 w8 hown8 hgrow; refine hK' _ _ ?_)
  have hG8 := (hG.alloc (.cells (lnC (0, 1, 4)) 70)).other hgrow (fun j e => by simp [Value.ownBlock] at e)
  rw [rounds_succ]
  go_wp2_with fail
  go_ret
  exact ⟨v8, rfl, Rd.of_owns hown8, hG8⟩
end Go.Proofs.Ytkpmcakppiinlaa
