/- Soi, Rat, Spc, Spd, Tlr, Pas. -/
import Derived.Test.YtamoefnpfkcigaaDoorZc1
import Derived.StillTailTactics
/- slices.SortStableFunc at ints, fewer than 20: insertion. Written by gensoi.py. -/
namespace Go.Proofs.YtamoefnpfkcigaaDoor
open Go.RowKit

def inC (n : Int) : Array Value := #[.int .i64 n]
theorem inC_sz (n : Int) : (inC n).size = 1 := rfl
theorem in_rowL (l : List Int) : rowL inC l = l.map (Value.int .i64) := by
  induction l with
  | nil => rfl
  | cons s l ih => rw [rowL_cons, ih]; rfl
theorem in_rowOk : RowOk Tryd.prog 3 22 1 8 (.int .i64 0) inC := ⟨by kernel_rfl, Tryd.underlying22, fun r u hu => by simp [inC] at hu; subst hu; rfl, inC_sz, rfl, by omega, by omega⟩
abbrev OwnIn (w : World) (base : Nat) (v : Value) (l : List Int) : Prop := OwnX 3 1 inC w base v l
theorem OwnX.form0 {α : Type} {T : TypeId} {z : Nat} {c : α → Array Value} {w : World} {base : Nat} {v : Value} {l : List α} (h : OwnX T z c w base v l) (h0 : 0 < l.length) : ∃ g cap cur, v = .slice (some ⟨g, 0, none⟩) l.length cap ∧ Bk w g T cur := by
  rcases h.2 with ⟨rfl, h3⟩ | ⟨g, cap, cur, rfl, hb, hg, _⟩
  · omega
  · exact ⟨g, cap, cur, rfl, hg⟩
/-- One number moves down as far as it is less than the one before it. -/
def insJ {α : Type} (c : α → α → Bool) : Nat → List α → List α
  | 0, l => l
  | j + 1, l => match l[j + 1]?, l[j]? with
    | some x, some y => if c x y = true then insJ c j ((l.set (j + 1) y).set j x) else l
    | _, _ => l
/-- The numbers from a place on move down, one after the other. -/
def isF {α : Type} (c : α → α → Bool) : Nat → Nat → List α → List α
  | 0, _, l => l
  | n + 1, i, l => isF c n (i + 1) (insJ c i l)
def isrt {α : Type} (c : α → α → Bool) (l : List α) : List α := isF c (l.length - 1) 1 l
theorem insJ_len {α : Type} (c : α → α → Bool) : ∀ (j : Nat) (l : List α), (insJ c j l).length = l.length
  | 0, _ => rfl
  | j + 1, l => by
    unfold insJ
    split
    · split
      · rw [insJ_len c j]; simp
      · rfl
    · rfl
theorem isF_len {α : Type} (c : α → α → Bool) : ∀ (n i : Nat) (l : List α), (isF c n i l).length = l.length
  | 0, _, _ => rfl
  | n + 1, i, l => by rw [isF, isF_len c n, insJ_len]
theorem soi_set {w : World} {base g n cap : Nat} {l : List Int} (h : OwnIn w base (.slice (some ⟨g, 0, none⟩) n cap) l) (hl : l.length = n) {j : Nat} {x : Int} (hx : l[j]? = some x) (y : Int) : OwnIn (w.setCell ⟨g, j, none⟩ (.int .i64 y)) base (.slice (some ⟨g, 0, none⟩) n cap) (l.set j y) := by
  subst hl
  have h2 := OwnX.set (c := inC) inC_sz h hx 0 (.int .i64 y) (by omega) (q := y) rfl
  unfold OwnIn OwnX
  rw [List.length_set]
  simpa using h2
theorem soi_free {w : World} {base g n cap : Nat} {l : List Int} (h : OwnIn w base (.slice (some ⟨g, 0, none⟩) n cap) l) (hl : l.length = n) (j : Nat) : w.frozen? ⟨g, j, none⟩ = false := by
  subst hl
  exact ownsRow_free h j
/-- What may be written: the list's own block. -/
def S1 (v : Value) (k : Nat) : Prop := v.ownBlock = some k
def SoRel (w : World) (base : Nat) (v : Value) (c : Int → Int → Bool) (l0 : List Int) (s8 : Value) (wr : World) : Prop :=
  ∃ (i : Nat) (l : List Int), 1 ≤ i ∧ i ≤ max l0.length 1 ∧ s8 = .int .i64 i ∧ isrt c l0 = isF c (l0.length - i) i l ∧ l.length = l0.length ∧ (∀ z ∈ l, z ∈ l0) ∧ OwnIn wr base v l ∧ GS (S1 v) w wr
def SiRel (w : World) (base : Nat) (v : Value) (c : Int → Int → Bool) (l0 : List Int) (i : Nat) (li : List Int) (s9 : Value) (wr : World) : Prop :=
  ∃ (j : Nat) (l : List Int), j ≤ i ∧ s9 = .int .i64 j ∧ insJ c i li = insJ c j l ∧ l.length = l0.length ∧ (∀ z ∈ l, z ∈ l0) ∧ OwnIn wr base v l ∧ GS (S1 v) w wr
set_option maxRecDepth 100000 in
set_option maxHeartbeats 8000000 in
theorem insSort_c (F : FuncId) (caps : Array Value) (cf : Int → Int → Int) (v : Value) (l0 : List Int) (base : Nat) (w : World) (hcf : ∀ (args : Array Value) (w : World), (callFunc F args).run Tryd.prog w = .ok (.enter F args) w)
    (hal : ∀ (x y : Int) (w' : World), x ∈ l0 → y ∈ l0 → GS (S1 v) w w' → Calls Tryd.prog F (#[.int .i64 x, .int .i64 y] ++ caps) w' fun e w'' => e = .returned (.int .i64 (cf x y)) ∧ G w' w'' none)
    (hown : OwnIn w base v l0) (hn : l0.length ≤ 1000) :
    Calls Tryd.prog 79 #[v, .int .i64 0, .int .i64 l0.length, .func (.func F) #[] caps] w fun e w' => e = .returned (.tuple #[]) ∧ OwnIn w' base v (isrt (fun x y => decide (cf x y < 0)) l0) ∧ GS (S1 v) w w' := by
  have HAL := Lib.hid hal
  obtain ⟨a, cap, rfl, hcap, hm⟩ := RdR.form (c := inC) (Rd.of_owns hown)
  clear hal
  go_enter Tryd.func79, Tryd.ntmps79
  go_wp2_with fail
  go_loopw [8] (SoRel w base (.slice a l0.length cap) (fun x y => decide (cf x y < 0)) l0) (fun i _ => l0.length - (intOf i).toNat)
  case atStart => exact ⟨1, l0, by omega, by omega, rfl, rfl, rfl, fun z hz => hz, hown, GS.refl _ _⟩
  case round =>
    obtain ⟨i, l, hi1, hil, rfl, heq, hll, hsub, hownr, hGr⟩ := hrel
    have HSUB := Lib.hid hsub
    clear hsub
    have HE := Lib.hid heq
    clear heq hown
    by_cases hlt : i < l0.length
    · have HD : Hid (isrt (fun x y => decide (cf x y < 0)) l0 = isF (fun x y => decide (cf x y < 0)) (l0.length - (i + 1)) (i + 1) (insJ (fun x y => decide (cf x y < 0)) i l)) := Lib.hid (by
        rw [HE.out, show l0.length - i = (l0.length - (i + 1)) + 1 by omega, isF])
      have HI := Lib.hid hlt
      go_wp2_with fail
      go_loopw [9] (SiRel w base (.slice a l0.length cap) (fun x y => decide (cf x y < 0)) l0 i l) (fun j _ => (intOf j).toNat)
      case atStart => exact ⟨i, l, by omega, rfl, rfl, hll, HSUB.out, hownr, hGr⟩
      case round =>
        clear hownr hGr
        obtain ⟨j, l', hji, rfl, heq, hl', hsub2, hown2, hG2⟩ := hrel
        have HSUB2 := Lib.hid hsub2
        clear hsub2
        have HQ := Lib.hid heq
        clear heq
        match j, hji, HQ with
        | 0, hji, HQ =>
          have HF : Hid (insJ (fun x y => decide (cf x y < 0)) i l = l') := Lib.hid (by rw [HQ.out, insJ])
          have h0 : ¬ ((0 : Int) > 0) := by omega
          go_upto_region 4 with fail
          refine wp_region_held_drew (S := (fun _ : World => True)) (by kernel_rfl) ?_ (fun hHeld => ?_)
          · exact trivial
          refine wpAnyH_take (i := 0) (oi := { dst := some 18, op := Op.move (Operand.tmp 9), type := 3, pos := _, after := #[], guard := none }) (v := ?_) rfl (by kernel_rfl) (by kernel_rfl) (by kernel_rfl) (fun _ _ _ h => h) (Or.inl ⟨by rfl, ?_⟩) (by assumption) ?_
          rotate_left
          · (intro w hSw; clear hSw; (go_simp <;> with_reducible rfl))
          try simp only [Act.put, List.setIfInBounds_toArray, List.set_cons_zero, List.set_cons_succ]
          refine wpAnyH_take (i := 1) (oi := { dst := some 19, op := Op.move (Operand.tmp 1), type := 3, pos := _, after := #[], guard := none }) (v := ?_) rfl (by kernel_rfl) (by kernel_rfl) (by kernel_rfl) (fun _ _ _ h => h) (Or.inl ⟨by rfl, ?_⟩) (by assumption) ?_
          rotate_left
          · (intro w hSw; clear hSw; (go_simp <;> with_reducible rfl))
          try simp only [Act.put, List.setIfInBounds_toArray, List.set_cons_zero, List.set_cons_succ]
          refine wpAnyH_take (i := 2) (oi := { dst := some 20, op := Op.binOp BinOp.gtr 3 (Operand.tmp 18) (Operand.tmp 19) 3, type := 4, pos := _, after := #[{ on := 0, ground := Ground.data }, { on := 1, ground := Ground.data }], guard := none }) (v := ?_) rfl (by kernel_rfl) (by kernel_rfl) (by kernel_rfl) (fun _ _ _ h => h) (Or.inl ⟨by rfl, ?_⟩) (by assumption) ?_
          rotate_left
          · (intro w hSw; clear hSw; (go_simp <;> with_reducible rfl))
          try simp only [Act.put, List.setIfInBounds_toArray, List.set_cons_zero, List.set_cons_succ]
          refine wpAnyH_take (i := 3) (oi := { dst := some 21, op := Op.move (Operand.tmp 20), type := 4, pos := _, after := #[{ on := 2, ground := Ground.data }], guard := none }) (v := ?_) rfl (by kernel_rfl) (by kernel_rfl) (by kernel_rfl) (fun _ _ _ h => h) (Or.inl ⟨by rfl, ?_⟩) (by assumption) ?_
          rotate_left
          · (intro w hSw; clear hSw; (go_simp <;> with_reducible rfl))
          try simp only [Act.put, List.setIfInBounds_toArray, List.set_cons_zero, List.set_cons_succ]
          refine wpAnyH_take (i := 4) (oi := { dst := some 22, op := Op.move (Operand.tmp 3), type := 55, pos := _, after := #[{ on := 3, ground := Ground.guard }], guard := some (3, true) }) (v := undef) rfl (by kernel_rfl) (by kernel_rfl) (by kernel_rfl) (fun _ _ _ h => h) (Or.inr ⟨by rfl, rfl⟩) (by assumption) ?_
          try simp only [Act.put, List.setIfInBounds_toArray, List.set_cons_zero, List.set_cons_succ]
          refine wpAnyH_take (i := 5) (oi := { dst := some 23, op := Op.move (Operand.tmp 0), type := 22, pos := _, after := #[{ on := 3, ground := Ground.guard }], guard := some (3, true) }) (v := undef) rfl (by kernel_rfl) (by kernel_rfl) (by kernel_rfl) (fun _ _ _ h => h) (Or.inr ⟨by rfl, rfl⟩) (by assumption) ?_
          try simp only [Act.put, List.setIfInBounds_toArray, List.set_cons_zero, List.set_cons_succ]
          refine wpAnyH_take (i := 6) (oi := { dst := some 24, op := Op.move (Operand.tmp 9), type := 3, pos := _, after := #[{ on := 3, ground := Ground.guard }], guard := some (3, true) }) (v := undef) rfl (by kernel_rfl) (by kernel_rfl) (by kernel_rfl) (fun _ _ _ h => h) (Or.inr ⟨by rfl, rfl⟩) (by assumption) ?_
          try simp only [Act.put, List.setIfInBounds_toArray, List.set_cons_zero, List.set_cons_succ]
          refine wpAnyH_take (i := 7) (oi := { dst := some 25, op := Op.indexAddr 22 (Operand.tmp 23) (Operand.tmp 24), type := 0, pos := _, after := #[{ on := 5, ground := Ground.data }, { on := 6, ground := Ground.data }, { on := 3, ground := Ground.guard }], guard := some (3, true) }) (v := undef) rfl (by kernel_rfl) (by kernel_rfl) (by kernel_rfl) (fun _ _ _ h => h) (Or.inr ⟨by rfl, rfl⟩) (by assumption) ?_
          try simp only [Act.put, List.setIfInBounds_toArray, List.set_cons_zero, List.set_cons_succ]
          refine wpAnyH_take (i := 8) (oi := { dst := some 26, op := Op.load 3 (Operand.tmp 25), type := 3, pos := _, after := #[{ on := 7, ground := Ground.data }, { on := 3, ground := Ground.guard }], guard := some (3, true) }) (v := undef) rfl (by kernel_rfl) (by kernel_rfl) (by kernel_rfl) (fun _ _ _ h => h) (Or.inr ⟨by rfl, rfl⟩) (by assumption) ?_
          try simp only [Act.put, List.setIfInBounds_toArray, List.set_cons_zero, List.set_cons_succ]
          refine wpAnyH_take (i := 9) (oi := { dst := some 27, op := Op.move (Operand.tmp 0), type := 22, pos := _, after := #[{ on := 3, ground := Ground.guard }], guard := some (3, true) }) (v := undef) rfl (by kernel_rfl) (by kernel_rfl) (by kernel_rfl) (fun _ _ _ h => h) (Or.inr ⟨by rfl, rfl⟩) (by assumption) ?_
          try simp only [Act.put, List.setIfInBounds_toArray, List.set_cons_zero, List.set_cons_succ]
          refine wpAnyH_take (i := 10) (oi := { dst := some 28, op := Op.move (Operand.tmp 9), type := 3, pos := _, after := #[{ on := 3, ground := Ground.guard }], guard := some (3, true) }) (v := undef) rfl (by kernel_rfl) (by kernel_rfl) (by kernel_rfl) (fun _ _ _ h => h) (Or.inr ⟨by rfl, rfl⟩) (by assumption) ?_
          try simp only [Act.put, List.setIfInBounds_toArray, List.set_cons_zero, List.set_cons_succ]
          refine wpAnyH_take (i := 11) (oi := { dst := some 29, op := Op.binOp BinOp.sub 3 (Operand.tmp 28) (Operand.const (Value.int IntKind.i64 1)) 3, type := 3, pos := _, after := #[{ on := 10, ground := Ground.data }, { on := 3, ground := Ground.guard }], guard := some (3, true) }) (v := undef) rfl (by kernel_rfl) (by kernel_rfl) (by kernel_rfl) (fun _ _ _ h => h) (Or.inr ⟨by rfl, rfl⟩) (by assumption) ?_
          try simp only [Act.put, List.setIfInBounds_toArray, List.set_cons_zero, List.set_cons_succ]
          refine wpAnyH_take (i := 12) (oi := { dst := some 30, op := Op.indexAddr 22 (Operand.tmp 27) (Operand.tmp 29), type := 0, pos := _, after := #[{ on := 9, ground := Ground.data }, { on := 11, ground := Ground.data }, { on := 3, ground := Ground.guard }], guard := some (3, true) }) (v := undef) rfl (by kernel_rfl) (by kernel_rfl) (by kernel_rfl) (fun _ _ _ h => h) (Or.inr ⟨by rfl, rfl⟩) (by assumption) ?_
          try simp only [Act.put, List.setIfInBounds_toArray, List.set_cons_zero, List.set_cons_succ]
          refine wpAnyH_take (i := 13) (oi := { dst := some 31, op := Op.load 3 (Operand.tmp 30), type := 3, pos := _, after := #[{ on := 12, ground := Ground.data }, { on := 3, ground := Ground.guard }], guard := some (3, true) }) (v := undef) rfl (by kernel_rfl) (by kernel_rfl) (by kernel_rfl) (fun _ _ _ h => h) (Or.inr ⟨by rfl, rfl⟩) (by assumption) ?_
          try simp only [Act.put, List.setIfInBounds_toArray, List.set_cons_zero, List.set_cons_succ]
          refine wpAnyH_take (i := 14) (oi := { dst := some 32, op := Op.call { callee := Callee.value (Operand.tmp 22), args := #[Operand.tmp 26, Operand.tmp 31], argTypes := #[3, 3] }, type := 3, pos := _, after := #[{ on := 4, ground := Ground.data }, { on := 8, ground := Ground.data }, { on := 13, ground := Ground.data }, { on := 3, ground := Ground.chain }, { on := 3, ground := Ground.guard }], guard := some (3, true) }) (v := undef) rfl (by kernel_rfl) (by kernel_rfl) (by kernel_rfl) (fun _ _ _ h => h) (Or.inr ⟨by rfl, rfl⟩) (by assumption) ?_
          try simp only [Act.put, List.setIfInBounds_toArray, List.set_cons_zero, List.set_cons_succ]
          refine wpAnyH_take (i := 15) (oi := { dst := some 33, op := Op.binOp BinOp.lss 3 (Operand.tmp 32) (Operand.const (Value.int IntKind.i64 0)) 3, type := 4, pos := _, after := #[{ on := 14, ground := Ground.data }, { on := 3, ground := Ground.guard }], guard := some (3, true) }) (v := undef) rfl (by kernel_rfl) (by kernel_rfl) (by kernel_rfl) (fun _ _ _ h => h) (Or.inr ⟨by rfl, rfl⟩) (by assumption) ?_
          try simp only [Act.put, List.setIfInBounds_toArray, List.set_cons_zero, List.set_cons_succ]
          refine wpAnyH_take (i := 16) (oi := { dst := some 34, op := Op.pick (Operand.tmp 21) (Operand.tmp 33) (Operand.const (Value.bool false)), type := 4, pos := _, after := #[{ on := 3, ground := Ground.data }, { on := 15, ground := Ground.data }], guard := none }) (v := ?_) rfl (by kernel_rfl) (by kernel_rfl) (by kernel_rfl) (fun _ _ _ h => h) (Or.inl ⟨by rfl, ?_⟩) (by assumption) ?_
          rotate_left
          · (intro w hSw; clear hSw; (go_simp <;> with_reducible rfl))
          try simp only [Act.put, List.setIfInBounds_toArray, List.set_cons_zero, List.set_cons_succ]
          refine wpAnyH_done (by kernel_rfl) ?_ _
          generalize hwd : wr.drew = wd at hHeld ⊢
          have hown3 : OwnIn wd base (.slice a l0.length cap) l' := by rw [← hwd]; exact OwnX.drew hown2
          have hG3 : GS (S1 (.slice a l0.length cap)) w wd := by rw [← hwd]; exact hG2.trans (GS.of_G (G.refl wr none).drew)
          clear hwd hHeld
          go_wp2_with fail
          go_roundw
          case rel => exact ⟨i + 1, l', by omega, by omega, by go_num, by rw [HD.out, HF.out], hl', HSUB2.out, hown3, hG3⟩
          case measure => have := HI.out; simp [intOf]; omega
        | j + 1, hji, HQ =>
          obtain ⟨x, hx⟩ : ∃ x, l'[j + 1]? = some x := ⟨_, List.getElem?_eq_getElem (by omega)⟩
          obtain ⟨y, hy⟩ : ∃ y, l'[j]? = some y := ⟨_, List.getElem?_eq_getElem (by omega)⟩
          have HDJ : Hid (insJ (fun x y => decide (cf x y < 0)) i l = if cf x y < 0 then insJ (fun x y => decide (cf x y < 0)) j ((l'.set (j + 1) y).set j x) else l') := Lib.hid (by
            rw [HQ.out, insJ, hx, hy]; simp)
          obtain ⟨g, cap', cur, e, hB⟩ := OwnX.form0 hown2 (by omega)
          rw [hl'] at e
          cases e
          have hcx : ∀ w', G wr w' none → w'.cell? ⟨g, j + 1, none⟩ = some (.int .i64 x) := fun w' q => by
            have := RdR.cell inC_sz (Rd.of_owns hown2) q hx 0 (.int .i64 x) rfl
            simpa using this
          have hcy : ∀ w', G wr w' none → w'.cell? ⟨g, j, none⟩ = some (.int .i64 y) := fun w' q => by
            have := RdR.cell inC_sz (Rd.of_owns hown2) q hy 0 (.int .i64 y) rfl
            simpa using this
          have HG0 := Lib.hid hG2
          have h0 : ((j : Int) + 1) > 0 := by omega
          have h1 : IntKind.i64.wrap ((j : Int) + 1 - 1) = (j : Int) := by rw [IntKind.wrap_i64]; omega
          have h2 : IntKind.i64.wrap (j : Int) = (j : Int) := by rw [IntKind.wrap_i64]; omega
          have h3 : (j : Int) + 1 < (l0.length : Int) := by omega
          have h4 : (j : Int) < (l0.length : Int) := by omega
          have h5 : (0 : Int) ≤ (j : Int) + 1 := by omega
          have h6 : (0 : Int) ≤ (j : Int) := by omega
          go_upto_region 4 with fail
          have hS := (G.refl wr none).drew
          refine wp_region_held_drew (S := (fun w' : World => w'.cell? ⟨g, j + 1, none⟩ = some (.int .i64 x) ∧ w'.cell? ⟨g, j, none⟩ = some (.int .i64 y))) (by kernel_rfl) ?_ (fun hHeld => ?_)
          · exact ⟨hcx _ hS, hcy _ hS⟩
          refine wpAnyH_take (i := 0) (oi := { dst := some 18, op := Op.move (Operand.tmp 9), type := 3, pos := _, after := #[], guard := none }) (v := ?_) rfl (by kernel_rfl) (by kernel_rfl) (by kernel_rfl) (fun _ _ _ h => h) (Or.inl ⟨by rfl, ?_⟩) (by assumption) ?_
          rotate_left
          · (intro w hSw; obtain ⟨z0, z1⟩ := hSw; (go_simp <;> with_reducible rfl))
          try simp only [Act.put, List.setIfInBounds_toArray, List.set_cons_zero, List.set_cons_succ]
          refine wpAnyH_take (i := 1) (oi := { dst := some 19, op := Op.move (Operand.tmp 1), type := 3, pos := _, after := #[], guard := none }) (v := ?_) rfl (by kernel_rfl) (by kernel_rfl) (by kernel_rfl) (fun _ _ _ h => h) (Or.inl ⟨by rfl, ?_⟩) (by assumption) ?_
          rotate_left
          · (intro w hSw; obtain ⟨z0, z1⟩ := hSw; (go_simp <;> with_reducible rfl))
          try simp only [Act.put, List.setIfInBounds_toArray, List.set_cons_zero, List.set_cons_succ]
          refine wpAnyH_take (i := 2) (oi := { dst := some 20, op := Op.binOp BinOp.gtr 3 (Operand.tmp 18) (Operand.tmp 19) 3, type := 4, pos := _, after := #[{ on := 0, ground := Ground.data }, { on := 1, ground := Ground.data }], guard := none }) (v := ?_) rfl (by kernel_rfl) (by kernel_rfl) (by kernel_rfl) (fun _ _ _ h => h) (Or.inl ⟨by rfl, ?_⟩) (by assumption) ?_
          rotate_left
          · (intro w hSw; obtain ⟨z0, z1⟩ := hSw; (go_simp <;> with_reducible rfl))
          try simp only [Act.put, List.setIfInBounds_toArray, List.set_cons_zero, List.set_cons_succ]
          refine wpAnyH_take (i := 3) (oi := { dst := some 21, op := Op.move (Operand.tmp 20), type := 4, pos := _, after := #[{ on := 2, ground := Ground.data }], guard := none }) (v := ?_) rfl (by kernel_rfl) (by kernel_rfl) (by kernel_rfl) (fun _ _ _ h => h) (Or.inl ⟨by rfl, ?_⟩) (by assumption) ?_
          rotate_left
          · (intro w hSw; obtain ⟨z0, z1⟩ := hSw; (go_simp <;> with_reducible rfl))
          try simp only [Act.put, List.setIfInBounds_toArray, List.set_cons_zero, List.set_cons_succ]
          refine wpAnyH_take (i := 4) (oi := { dst := some 22, op := Op.move (Operand.tmp 3), type := 55, pos := _, after := #[{ on := 3, ground := Ground.guard }], guard := some (3, true) }) (v := ?_) rfl (by kernel_rfl) (by kernel_rfl) (by kernel_rfl) (fun _ _ _ h => h) (Or.inl ⟨by rfl, ?_⟩) (by assumption) ?_
          rotate_left
          · (intro w hSw; obtain ⟨z0, z1⟩ := hSw; (go_simp <;> with_reducible rfl))
          try simp only [Act.put, List.setIfInBounds_toArray, List.set_cons_zero, List.set_cons_succ]
          refine wpAnyH_take (i := 5) (oi := { dst := some 23, op := Op.move (Operand.tmp 0), type := 22, pos := _, after := #[{ on := 3, ground := Ground.guard }], guard := some (3, true) }) (v := ?_) rfl (by kernel_rfl) (by kernel_rfl) (by kernel_rfl) (fun _ _ _ h => h) (Or.inl ⟨by rfl, ?_⟩) (by assumption) ?_
          rotate_left
          · (intro w hSw; obtain ⟨z0, z1⟩ := hSw; (go_simp <;> with_reducible rfl))
          try simp only [Act.put, List.setIfInBounds_toArray, List.set_cons_zero, List.set_cons_succ]
          refine wpAnyH_take (i := 6) (oi := { dst := some 24, op := Op.move (Operand.tmp 9), type := 3, pos := _, after := #[{ on := 3, ground := Ground.guard }], guard := some (3, true) }) (v := ?_) rfl (by kernel_rfl) (by kernel_rfl) (by kernel_rfl) (fun _ _ _ h => h) (Or.inl ⟨by rfl, ?_⟩) (by assumption) ?_
          rotate_left
          · (intro w hSw; obtain ⟨z0, z1⟩ := hSw; (go_simp <;> with_reducible rfl))
          try simp only [Act.put, List.setIfInBounds_toArray, List.set_cons_zero, List.set_cons_succ]
          refine wpAnyH_take (i := 7) (oi := { dst := some 25, op := Op.indexAddr 22 (Operand.tmp 23) (Operand.tmp 24), type := 0, pos := _, after := #[{ on := 5, ground := Ground.data }, { on := 6, ground := Ground.data }, { on := 3, ground := Ground.guard }], guard := some (3, true) }) (v := ?_) rfl (by kernel_rfl) (by kernel_rfl) (by kernel_rfl) (fun _ _ _ h => h) (Or.inl ⟨by rfl, ?_⟩) (by assumption) ?_
          rotate_left
          · (intro w hSw; obtain ⟨z0, z1⟩ := hSw; (go_simp <;> with_reducible rfl))
          try simp only [Act.put, List.setIfInBounds_toArray, List.set_cons_zero, List.set_cons_succ]
          refine wpAnyH_take (i := 8) (oi := { dst := some 26, op := Op.load 3 (Operand.tmp 25), type := 3, pos := _, after := #[{ on := 7, ground := Ground.data }, { on := 3, ground := Ground.guard }], guard := some (3, true) }) (v := ?_) rfl (by kernel_rfl) (by kernel_rfl) (by kernel_rfl) (fun _ _ _ h => h) (Or.inl ⟨by rfl, ?_⟩) (by assumption) ?_
          rotate_left
          · (intro w hSw; obtain ⟨z0, z1⟩ := hSw; (go_simp <;> with_reducible rfl))
          try simp only [Act.put, List.setIfInBounds_toArray, List.set_cons_zero, List.set_cons_succ]
          refine wpAnyH_take (i := 9) (oi := { dst := some 27, op := Op.move (Operand.tmp 0), type := 22, pos := _, after := #[{ on := 3, ground := Ground.guard }], guard := some (3, true) }) (v := ?_) rfl (by kernel_rfl) (by kernel_rfl) (by kernel_rfl) (fun _ _ _ h => h) (Or.inl ⟨by rfl, ?_⟩) (by assumption) ?_
          rotate_left
          · (intro w hSw; obtain ⟨z0, z1⟩ := hSw; (go_simp <;> with_reducible rfl))
          try simp only [Act.put, List.setIfInBounds_toArray, List.set_cons_zero, List.set_cons_succ]
          refine wpAnyH_take (i := 10) (oi := { dst := some 28, op := Op.move (Operand.tmp 9), type := 3, pos := _, after := #[{ on := 3, ground := Ground.guard }], guard := some (3, true) }) (v := ?_) rfl (by kernel_rfl) (by kernel_rfl) (by kernel_rfl) (fun _ _ _ h => h) (Or.inl ⟨by rfl, ?_⟩) (by assumption) ?_
          rotate_left
          · (intro w hSw; obtain ⟨z0, z1⟩ := hSw; (go_simp <;> with_reducible rfl))
          try simp only [Act.put, List.setIfInBounds_toArray, List.set_cons_zero, List.set_cons_succ]
          refine wpAnyH_take (i := 11) (oi := { dst := some 29, op := Op.binOp BinOp.sub 3 (Operand.tmp 28) (Operand.const (Value.int IntKind.i64 1)) 3, type := 3, pos := _, after := #[{ on := 10, ground := Ground.data }, { on := 3, ground := Ground.guard }], guard := some (3, true) }) (v := ?_) rfl (by kernel_rfl) (by kernel_rfl) (by kernel_rfl) (fun _ _ _ h => h) (Or.inl ⟨by rfl, ?_⟩) (by assumption) ?_
          rotate_left
          · (intro w hSw; obtain ⟨z0, z1⟩ := hSw; (go_simp <;> with_reducible rfl))
          try simp only [Act.put, List.setIfInBounds_toArray, List.set_cons_zero, List.set_cons_succ]
          refine wpAnyH_take (i := 12) (oi := { dst := some 30, op := Op.indexAddr 22 (Operand.tmp 27) (Operand.tmp 29), type := 0, pos := _, after := #[{ on := 9, ground := Ground.data }, { on := 11, ground := Ground.data }, { on := 3, ground := Ground.guard }], guard := some (3, true) }) (v := ?_) rfl (by kernel_rfl) (by kernel_rfl) (by kernel_rfl) (fun _ _ _ h => h) (Or.inl ⟨by rfl, ?_⟩) (by assumption) ?_
          rotate_left
          · (intro w hSw; obtain ⟨z0, z1⟩ := hSw; (go_simp <;> with_reducible rfl))
          try simp only [Act.put, List.setIfInBounds_toArray, List.set_cons_zero, List.set_cons_succ]
          refine wpAnyH_take (i := 13) (oi := { dst := some 31, op := Op.load 3 (Operand.tmp 30), type := 3, pos := _, after := #[{ on := 12, ground := Ground.data }, { on := 3, ground := Ground.guard }], guard := some (3, true) }) (v := ?_) rfl (by kernel_rfl) (by kernel_rfl) (by kernel_rfl) (fun _ _ _ h => h) (Or.inl ⟨by rfl, ?_⟩) (by assumption) ?_
          rotate_left
          · (intro w hSw; obtain ⟨z0, z1⟩ := hSw; (go_simp <;> with_reducible rfl))
          try simp only [Act.put, List.setIfInBounds_toArray, List.set_cons_zero, List.set_cons_succ]
          refine wpAnyH_ready (rs := [14]) (by kernel_rfl) (by simp) ?_
          refine AllReadyH.cons (o := { dst := some 32, op := Op.call { callee := Callee.value (Operand.tmp 22), args := #[Operand.tmp 26, Operand.tmp 31], argTypes := #[3, 3] }, type := 3, pos := _, after := #[{ on := 4, ground := Ground.data }, { on := 8, ground := Ground.data }, { on := 13, ground := Ground.data }, { on := 3, ground := Ground.chain }, { on := 3, ground := Ground.guard }], guard := some (3, true) }) rfl (fun K hK => ?_) AllReadyH.nil
          go_simp
          refine (HAL.out x y _ (HSUB2.out _ (List.mem_of_getElem? hx)) (HSUB2.out _ (List.mem_of_getElem? hy)) (HG0.out.trans (GS.of_G hS))).mono ?_
          rintro e w4 ⟨rfl, hh⟩
          replace hS := hS.trans hh
          clear hh
          refine hK.out _ _ ?_ (fun hHeld => ?_)
          · exact ⟨hcx _ hS, hcy _ hS⟩
          clear hK K
          try simp only [Act.put, List.setIfInBounds_toArray, List.set_cons_zero, List.set_cons_succ]
          refine wpAnyH_take (i := 15) (oi := { dst := some 33, op := Op.binOp BinOp.lss 3 (Operand.tmp 32) (Operand.const (Value.int IntKind.i64 0)) 3, type := 4, pos := _, after := #[{ on := 14, ground := Ground.data }, { on := 3, ground := Ground.guard }], guard := some (3, true) }) (v := ?_) rfl (by kernel_rfl) (by kernel_rfl) (by kernel_rfl) (fun _ _ _ h => h) (Or.inl ⟨by rfl, ?_⟩) (by assumption) ?_
          rotate_left
          · (intro w hSw; obtain ⟨z0, z1⟩ := hSw; (go_simp <;> with_reducible rfl))
          try simp only [Act.put, List.setIfInBounds_toArray, List.set_cons_zero, List.set_cons_succ]
          refine wpAnyH_take (i := 16) (oi := { dst := some 34, op := Op.pick (Operand.tmp 21) (Operand.tmp 33) (Operand.const (Value.bool false)), type := 4, pos := _, after := #[{ on := 3, ground := Ground.data }, { on := 15, ground := Ground.data }], guard := none }) (v := ?_) rfl (by kernel_rfl) (by kernel_rfl) (by kernel_rfl) (fun _ _ _ h => h) (Or.inl ⟨by rfl, ?_⟩) (by assumption) ?_
          rotate_left
          · (intro w hSw; obtain ⟨z0, z1⟩ := hSw; (go_simp <;> with_reducible rfl))
          try simp only [Act.put, List.setIfInBounds_toArray, List.set_cons_zero, List.set_cons_succ]
          refine wpAnyH_done (by kernel_rfl) ?_ _
          clear hHeld
          have hown4 := OwnX.quiet hown2 hS
          have hG4 := hG2.trans (GS.of_G hS)
          by_cases hc : cf x y < 0
          · have HF : Hid (insJ (fun x y => decide (cf x y < 0)) i l = insJ (fun x y => decide (cf x y < 0)) j ((l'.set (j + 1) y).set j x)) := Lib.hid (by rw [HDJ.out, if_pos hc])
            have k1 := hcx _ hS
            have k2 := hcy _ hS
            go_upto_region 6 with fail
            have hown5 : OwnIn w4.drew base _ _ := OwnX.drew hown4
            have hG5 := hG4.trans (GS.of_G (G.refl w4 none).drew)
            clear k1 k2 hown4 hG4 hS
            obtain ⟨w5, hw5⟩ : ∃ w5, w4.drew = w5 := ⟨_, rfl⟩
            rw [hw5] at hown5 hG5
            have HSUB3 : Hid (∀ z ∈ (l'.set (j + 1) y).set j x, z ∈ l0) := Lib.hid (fun z hz => by
              rcases List.mem_or_eq_of_mem_set hz with hz | rfl
              · rcases List.mem_or_eq_of_mem_set hz with hz | rfl
                · exact HSUB2.out z hz
                · exact HSUB2.out _ (List.mem_of_getElem? hy)
              · exact HSUB2.out _ (List.mem_of_getElem? hx))
            have hA := soi_set hown5 hl' hx y
            have hy2 : (l'.set (j + 1) y)[j]? = some y := by rw [List.getElem?_set_ne (by omega)]; exact hy
            have hBB := soi_set hA (by rw [List.length_set]; exact hl') hy2 x
            have z0 : w5.cell? ⟨g, j, none⟩ = some (.int .i64 y) := by have := RdR.cell inC_sz (Rd.of_owns hown5) (G.refl _ none) hy 0 (.int .i64 y) rfl; simpa using this
            have z1 : w5.cell? ⟨g, j + 1, none⟩ = some (.int .i64 x) := by have := RdR.cell inC_sz (Rd.of_owns hown5) (G.refl _ none) hx 0 (.int .i64 x) rfl; simpa using this
            have z2 : (w5.setCell ⟨g, j + 1, none⟩ (.int .i64 y)).cell? ⟨g, j, none⟩ = some (.int .i64 y) := by have := RdR.cell inC_sz (Rd.of_owns hA) (G.refl _ none) hy2 0 (.int .i64 y) rfl; simpa using this
            have z3 : w5.frozen? ⟨g, j + 1, none⟩ = false := soi_free hown5 hl' _
            have z4 : (w5.setCell ⟨g, j + 1, none⟩ (.int .i64 y)).frozen? ⟨g, j, none⟩ = false := soi_free hA (by rw [List.length_set]; exact hl') _
            have hG6 := (hG5.trans (GS.of_Gs ((G.refl w5 (some g)).setCell (p := ⟨g, j + 1, none⟩) (.inr rfl) (.int .i64 y)) (show S1 _ g from rfl))).trans (GS.of_Gs ((G.refl _ (some g)).setCell (p := ⟨g, j, none⟩) (.inr rfl) (.int .i64 x)) (show S1 _ g from rfl))
            refine wp_region_held_drew (S := (fun _ : World => True)) (by kernel_rfl) ?_ (fun hHeld => ?_)
            · exact trivial
            rw [hw5]
            clear hw5
            refine wpAnyH_take (i := 0) (oi := { dst := some 37, op := Op.move (Operand.tmp 0), type := 22, pos := _, after := #[], guard := none }) (v := ?_) rfl (by kernel_rfl) (by kernel_rfl) (by kernel_rfl) (fun _ _ _ h => h) (Or.inl ⟨by rfl, ?_⟩) (by assumption) ?_
            rotate_left
            · (intro w hSw; clear hSw; (go_simp <;> with_reducible rfl))
            try simp only [Act.put, List.setIfInBounds_toArray, List.set_cons_zero, List.set_cons_succ]
            refine wpAnyH_take (i := 1) (oi := { dst := some 38, op := Op.move (Operand.tmp 9), type := 3, pos := _, after := #[], guard := none }) (v := ?_) rfl (by kernel_rfl) (by kernel_rfl) (by kernel_rfl) (fun _ _ _ h => h) (Or.inl ⟨by rfl, ?_⟩) (by assumption) ?_
            rotate_left
            · (intro w hSw; clear hSw; (go_simp <;> with_reducible rfl))
            try simp only [Act.put, List.setIfInBounds_toArray, List.set_cons_zero, List.set_cons_succ]
            refine wpAnyH_take (i := 2) (oi := { dst := some 39, op := Op.move (Operand.tmp 0), type := 22, pos := _, after := #[{ on := 15, ground := Ground.gcOnly Departure.lateStores }], guard := none }) (v := ?_) rfl (by kernel_rfl) (by kernel_rfl) (by kernel_rfl) (fun _ _ _ h => h) (Or.inl ⟨by rfl, ?_⟩) (by assumption) ?_
            rotate_left
            · (intro w hSw; clear hSw; (go_simp <;> with_reducible rfl))
            try simp only [Act.put, List.setIfInBounds_toArray, List.set_cons_zero, List.set_cons_succ]
            refine wpAnyH_take (i := 3) (oi := { dst := some 40, op := Op.move (Operand.tmp 9), type := 3, pos := _, after := #[{ on := 15, ground := Ground.gcOnly Departure.lateStores }], guard := none }) (v := ?_) rfl (by kernel_rfl) (by kernel_rfl) (by kernel_rfl) (fun _ _ _ h => h) (Or.inl ⟨by rfl, ?_⟩) (by assumption) ?_
            rotate_left
            · (intro w hSw; clear hSw; (go_simp <;> with_reducible rfl))
            try simp only [Act.put, List.setIfInBounds_toArray, List.set_cons_zero, List.set_cons_succ]
            refine wpAnyH_take (i := 4) (oi := { dst := some 41, op := Op.binOp BinOp.sub 3 (Operand.tmp 40) (Operand.const (Value.int IntKind.i64 1)) 3, type := 3, pos := _, after := #[{ on := 3, ground := Ground.data }, { on := 15, ground := Ground.gcOnly Departure.lateStores }], guard := none }) (v := ?_) rfl (by kernel_rfl) (by kernel_rfl) (by kernel_rfl) (fun _ _ _ h => h) (Or.inl ⟨by rfl, ?_⟩) (by assumption) ?_
            rotate_left
            · (intro w hSw; clear hSw; (go_simp <;> with_reducible rfl))
            try simp only [Act.put, List.setIfInBounds_toArray, List.set_cons_zero, List.set_cons_succ]
            refine wpAnyH_take (i := 5) (oi := { dst := some 42, op := Op.move (Operand.tmp 0), type := 22, pos := _, after := #[], guard := none }) (v := ?_) rfl (by kernel_rfl) (by kernel_rfl) (by kernel_rfl) (fun _ _ _ h => h) (Or.inl ⟨by rfl, ?_⟩) (by assumption) ?_
            rotate_left
            · (intro w hSw; clear hSw; (go_simp <;> with_reducible rfl))
            try simp only [Act.put, List.setIfInBounds_toArray, List.set_cons_zero, List.set_cons_succ]
            refine wpAnyH_take (i := 6) (oi := { dst := some 43, op := Op.move (Operand.tmp 9), type := 3, pos := _, after := #[], guard := none }) (v := ?_) rfl (by kernel_rfl) (by kernel_rfl) (by kernel_rfl) (fun _ _ _ h => h) (Or.inl ⟨by rfl, ?_⟩) (by assumption) ?_
            rotate_left
            · (intro w hSw; clear hSw; (go_simp <;> with_reducible rfl))
            try simp only [Act.put, List.setIfInBounds_toArray, List.set_cons_zero, List.set_cons_succ]
            refine wpAnyH_take (i := 7) (oi := { dst := some 44, op := Op.binOp BinOp.sub 3 (Operand.tmp 43) (Operand.const (Value.int IntKind.i64 1)) 3, type := 3, pos := _, after := #[{ on := 6, ground := Ground.data }], guard := none }) (v := ?_) rfl (by kernel_rfl) (by kernel_rfl) (by kernel_rfl) (fun _ _ _ h => h) (Or.inl ⟨by rfl, ?_⟩) (by assumption) ?_
            rotate_left
            · (intro w hSw; clear hSw; (go_simp <;> with_reducible rfl))
            try simp only [Act.put, List.setIfInBounds_toArray, List.set_cons_zero, List.set_cons_succ]
            refine wpAnyH_take (i := 8) (oi := { dst := some 45, op := Op.indexAddr 22 (Operand.tmp 42) (Operand.tmp 44), type := 0, pos := _, after := #[{ on := 5, ground := Ground.data }, { on := 7, ground := Ground.data }], guard := none }) (v := ?_) rfl (by kernel_rfl) (by kernel_rfl) (by kernel_rfl) (fun _ _ _ h => h) (Or.inl ⟨by rfl, ?_⟩) (by assumption) ?_
            rotate_left
            · (intro w hSw; clear hSw; (go_simp <;> with_reducible rfl))
            try simp only [Act.put, List.setIfInBounds_toArray, List.set_cons_zero, List.set_cons_succ]
            refine wpAnyH_take (i := 10) (oi := { dst := some 47, op := Op.move (Operand.tmp 0), type := 22, pos := _, after := #[], guard := none }) (v := ?_) rfl (by kernel_rfl) (by kernel_rfl) (by kernel_rfl) (fun _ _ _ h => h) (Or.inl ⟨by rfl, ?_⟩) (by assumption) ?_
            rotate_left
            · (intro w hSw; clear hSw; (go_simp <;> with_reducible rfl))
            try simp only [Act.put, List.setIfInBounds_toArray, List.set_cons_zero, List.set_cons_succ]
            refine wpAnyH_take (i := 11) (oi := { dst := some 48, op := Op.move (Operand.tmp 9), type := 3, pos := _, after := #[], guard := none }) (v := ?_) rfl (by kernel_rfl) (by kernel_rfl) (by kernel_rfl) (fun _ _ _ h => h) (Or.inl ⟨by rfl, ?_⟩) (by assumption) ?_
            rotate_left
            · (intro w hSw; clear hSw; (go_simp <;> with_reducible rfl))
            try simp only [Act.put, List.setIfInBounds_toArray, List.set_cons_zero, List.set_cons_succ]
            refine wpAnyH_take (i := 12) (oi := { dst := some 49, op := Op.indexAddr 22 (Operand.tmp 47) (Operand.tmp 48), type := 0, pos := _, after := #[{ on := 10, ground := Ground.data }, { on := 11, ground := Ground.data }], guard := none }) (v := ?_) rfl (by kernel_rfl) (by kernel_rfl) (by kernel_rfl) (fun _ _ _ h => h) (Or.inl ⟨by rfl, ?_⟩) (by assumption) ?_
            rotate_left
            · (intro w hSw; clear hSw; (go_simp <;> with_reducible rfl))
            try simp only [Act.put, List.setIfInBounds_toArray, List.set_cons_zero, List.set_cons_succ]
            refine wpAnyH_ready (rs := [9, 13]) (by kernel_rfl) (by simp) ?_
            refine (AllReadyH.cons (o := { dst := some 46, op := Op.load 3 (Operand.tmp 45), type := 3, pos := _, after := #[{ on := 8, ground := Ground.data }], guard := none }) rfl (fun K hK => ?_) (AllReadyH.cons (o := { dst := some 50, op := Op.load 3 (Operand.tmp 49), type := 3, pos := _, after := #[{ on := 12, ground := Ground.data }], guard := none }) rfl (fun K hK => ?_) AllReadyH.nil))
            · go_simp
              refine hK.out _ _ ?_ (fun hHeld => ?_)
              · exact trivial
              clear hK K
              try simp only [Act.put, List.setIfInBounds_toArray, List.set_cons_zero, List.set_cons_succ]
              refine wpAnyH_ready (rs := [13]) (by kernel_rfl) (by simp) ?_
              refine (AllReadyH.cons (o := { dst := some 50, op := Op.load 3 (Operand.tmp 49), type := 3, pos := _, after := #[{ on := 12, ground := Ground.data }], guard := none }) rfl (fun K hK => ?_) AllReadyH.nil)
              go_simp
              refine hK.out _ _ ?_ (fun hHeld => ?_)
              · exact trivial
              clear hK K
              try simp only [Act.put, List.setIfInBounds_toArray, List.set_cons_zero, List.set_cons_succ]
              refine wpAnyH_take (i := 14) (oi := { dst := some 51, op := Op.indexAddr 22 (Operand.tmp 37) (Operand.tmp 38), type := 0, pos := _, after := #[{ on := 0, ground := Ground.data }, { on := 1, ground := Ground.data }, { on := 0, ground := Ground.phase }, { on := 1, ground := Ground.phase }, { on := 2, ground := Ground.textOnly Departure.lateStores }, { on := 3, ground := Ground.textOnly Departure.lateStores }, { on := 4, ground := Ground.textOnly Departure.lateStores }, { on := 5, ground := Ground.phase }, { on := 6, ground := Ground.phase }, { on := 7, ground := Ground.phase }, { on := 8, ground := Ground.phase }, { on := 9, ground := Ground.phase }, { on := 10, ground := Ground.textOnly Departure.lateStores }, { on := 11, ground := Ground.textOnly Departure.lateStores }, { on := 12, ground := Ground.textOnly Departure.lateStoresUnsure }, { on := 13, ground := Ground.phase }], guard := none }) (v := ?_) rfl (by kernel_rfl) (by kernel_rfl) (by kernel_rfl) (fun _ _ _ h => h) (Or.inl ⟨by rfl, ?_⟩) (by assumption) ?_
              rotate_left
              · (intro w hSw; clear hSw; (go_simp <;> with_reducible rfl))
              try simp only [Act.put, List.setIfInBounds_toArray, List.set_cons_zero, List.set_cons_succ]
              refine wpAnyH_ready (rs := [15]) (by kernel_rfl) (by simp) ?_
              refine (AllReadyH.cons (o := { dst := none, op := Op.store 3 (Operand.tmp 51) (Operand.tmp 46), type := 0, pos := _, after := #[{ on := 14, ground := Ground.data }, { on := 9, ground := Ground.data }, { on := 0, ground := Ground.phase }, { on := 1, ground := Ground.phase }, { on := 2, ground := Ground.textOnly Departure.lateStores }, { on := 3, ground := Ground.textOnly Departure.lateStores }, { on := 4, ground := Ground.textOnly Departure.lateStores }, { on := 5, ground := Ground.phase }, { on := 6, ground := Ground.phase }, { on := 7, ground := Ground.phase }, { on := 8, ground := Ground.phase }, { on := 9, ground := Ground.phase }, { on := 10, ground := Ground.textOnly Departure.lateStores }, { on := 11, ground := Ground.textOnly Departure.lateStores }, { on := 12, ground := Ground.textOnly Departure.lateStoresUnsure }, { on := 13, ground := Ground.phase }], guard := none }) rfl (fun K hK => ?_) AllReadyH.nil)
              go_simp
              refine hK.out _ _ ?_ (fun hHeld => ?_)
              · exact trivial
              clear hK K
              try simp only [Act.put, List.setIfInBounds_toArray, List.set_cons_zero, List.set_cons_succ]
              refine wpAnyH_take (i := 16) (oi := { dst := some 52, op := Op.indexAddr 22 (Operand.tmp 39) (Operand.tmp 41), type := 0, pos := _, after := #[{ on := 2, ground := Ground.data }, { on := 4, ground := Ground.data }, { on := 0, ground := Ground.phase }, { on := 1, ground := Ground.phase }, { on := 2, ground := Ground.phase }, { on := 3, ground := Ground.phase }, { on := 4, ground := Ground.phase }, { on := 5, ground := Ground.phase }, { on := 6, ground := Ground.phase }, { on := 7, ground := Ground.phase }, { on := 8, ground := Ground.phase }, { on := 9, ground := Ground.phase }, { on := 10, ground := Ground.phase }, { on := 11, ground := Ground.phase }, { on := 12, ground := Ground.phase }, { on := 13, ground := Ground.phase }, { on := 14, ground := Ground.phase }, { on := 15, ground := Ground.phase }], guard := none }) (v := ?_) rfl (by kernel_rfl) (by kernel_rfl) (by kernel_rfl) (fun _ _ _ h => h) (Or.inl ⟨by rfl, ?_⟩) (by assumption) ?_
              rotate_left
              · (intro w hSw; clear hSw; (go_simp <;> with_reducible rfl))
              try simp only [Act.put, List.setIfInBounds_toArray, List.set_cons_zero, List.set_cons_succ]
              refine wpAnyH_ready (rs := [17]) (by kernel_rfl) (by simp) ?_
              refine (AllReadyH.cons (o := { dst := none, op := Op.store 3 (Operand.tmp 52) (Operand.tmp 50), type := 0, pos := _, after := #[{ on := 16, ground := Ground.data }, { on := 13, ground := Ground.data }, { on := 15, ground := Ground.chain }, { on := 0, ground := Ground.phase }, { on := 1, ground := Ground.phase }, { on := 2, ground := Ground.phase }, { on := 3, ground := Ground.phase }, { on := 4, ground := Ground.phase }, { on := 5, ground := Ground.phase }, { on := 6, ground := Ground.phase }, { on := 7, ground := Ground.phase }, { on := 8, ground := Ground.phase }, { on := 9, ground := Ground.phase }, { on := 10, ground := Ground.phase }, { on := 11, ground := Ground.phase }, { on := 12, ground := Ground.phase }, { on := 13, ground := Ground.phase }, { on := 14, ground := Ground.phase }, { on := 15, ground := Ground.phase }], guard := none }) rfl (fun K hK => ?_) AllReadyH.nil)
              go_simp
              refine hK.out _ _ ?_ (fun hHeld => ?_)
              · exact trivial
              clear hK K
              try simp only [Act.put, List.setIfInBounds_toArray, List.set_cons_zero, List.set_cons_succ]
              refine wpAnyH_done (by kernel_rfl) ?_ _
              clear hHeld
              go_wp2_with fail
              go_roundw
              case rel => exact ⟨j, (l'.set (j + 1) y).set j x, by omega, by go_num, HF.out, by simp [hl'], HSUB3.out, hBB, hG6⟩
              case measure => simp [intOf]
            · go_simp
              refine hK.out _ _ ?_ (fun hHeld => ?_)
              · exact trivial
              clear hK K
              try simp only [Act.put, List.setIfInBounds_toArray, List.set_cons_zero, List.set_cons_succ]
              refine wpAnyH_ready (rs := [9]) (by kernel_rfl) (by simp) ?_
              refine (AllReadyH.cons (o := { dst := some 46, op := Op.load 3 (Operand.tmp 45), type := 3, pos := _, after := #[{ on := 8, ground := Ground.data }], guard := none }) rfl (fun K hK => ?_) AllReadyH.nil)
              go_simp
              refine hK.out _ _ ?_ (fun hHeld => ?_)
              · exact trivial
              clear hK K
              try simp only [Act.put, List.setIfInBounds_toArray, List.set_cons_zero, List.set_cons_succ]
              refine wpAnyH_take (i := 14) (oi := { dst := some 51, op := Op.indexAddr 22 (Operand.tmp 37) (Operand.tmp 38), type := 0, pos := _, after := #[{ on := 0, ground := Ground.data }, { on := 1, ground := Ground.data }, { on := 0, ground := Ground.phase }, { on := 1, ground := Ground.phase }, { on := 2, ground := Ground.textOnly Departure.lateStores }, { on := 3, ground := Ground.textOnly Departure.lateStores }, { on := 4, ground := Ground.textOnly Departure.lateStores }, { on := 5, ground := Ground.phase }, { on := 6, ground := Ground.phase }, { on := 7, ground := Ground.phase }, { on := 8, ground := Ground.phase }, { on := 9, ground := Ground.phase }, { on := 10, ground := Ground.textOnly Departure.lateStores }, { on := 11, ground := Ground.textOnly Departure.lateStores }, { on := 12, ground := Ground.textOnly Departure.lateStoresUnsure }, { on := 13, ground := Ground.phase }], guard := none }) (v := ?_) rfl (by kernel_rfl) (by kernel_rfl) (by kernel_rfl) (fun _ _ _ h => h) (Or.inl ⟨by rfl, ?_⟩) (by assumption) ?_
              rotate_left
              · (intro w hSw; clear hSw; (go_simp <;> with_reducible rfl))
              try simp only [Act.put, List.setIfInBounds_toArray, List.set_cons_zero, List.set_cons_succ]
              refine wpAnyH_ready (rs := [15]) (by kernel_rfl) (by simp) ?_
              refine (AllReadyH.cons (o := { dst := none, op := Op.store 3 (Operand.tmp 51) (Operand.tmp 46), type := 0, pos := _, after := #[{ on := 14, ground := Ground.data }, { on := 9, ground := Ground.data }, { on := 0, ground := Ground.phase }, { on := 1, ground := Ground.phase }, { on := 2, ground := Ground.textOnly Departure.lateStores }, { on := 3, ground := Ground.textOnly Departure.lateStores }, { on := 4, ground := Ground.textOnly Departure.lateStores }, { on := 5, ground := Ground.phase }, { on := 6, ground := Ground.phase }, { on := 7, ground := Ground.phase }, { on := 8, ground := Ground.phase }, { on := 9, ground := Ground.phase }, { on := 10, ground := Ground.textOnly Departure.lateStores }, { on := 11, ground := Ground.textOnly Departure.lateStores }, { on := 12, ground := Ground.textOnly Departure.lateStoresUnsure }, { on := 13, ground := Ground.phase }], guard := none }) rfl (fun K hK => ?_) AllReadyH.nil)
              go_simp
              refine hK.out _ _ ?_ (fun hHeld => ?_)
              · exact trivial
              clear hK K
              try simp only [Act.put, List.setIfInBounds_toArray, List.set_cons_zero, List.set_cons_succ]
              refine wpAnyH_take (i := 16) (oi := { dst := some 52, op := Op.indexAddr 22 (Operand.tmp 39) (Operand.tmp 41), type := 0, pos := _, after := #[{ on := 2, ground := Ground.data }, { on := 4, ground := Ground.data }, { on := 0, ground := Ground.phase }, { on := 1, ground := Ground.phase }, { on := 2, ground := Ground.phase }, { on := 3, ground := Ground.phase }, { on := 4, ground := Ground.phase }, { on := 5, ground := Ground.phase }, { on := 6, ground := Ground.phase }, { on := 7, ground := Ground.phase }, { on := 8, ground := Ground.phase }, { on := 9, ground := Ground.phase }, { on := 10, ground := Ground.phase }, { on := 11, ground := Ground.phase }, { on := 12, ground := Ground.phase }, { on := 13, ground := Ground.phase }, { on := 14, ground := Ground.phase }, { on := 15, ground := Ground.phase }], guard := none }) (v := ?_) rfl (by kernel_rfl) (by kernel_rfl) (by kernel_rfl) (fun _ _ _ h => h) (Or.inl ⟨by rfl, ?_⟩) (by assumption) ?_
              rotate_left
              · (intro w hSw; clear hSw; (go_simp <;> with_reducible rfl))
              try simp only [Act.put, List.setIfInBounds_toArray, List.set_cons_zero, List.set_cons_succ]
              refine wpAnyH_ready (rs := [17]) (by kernel_rfl) (by simp) ?_
              refine (AllReadyH.cons (o := { dst := none, op := Op.store 3 (Operand.tmp 52) (Operand.tmp 50), type := 0, pos := _, after := #[{ on := 16, ground := Ground.data }, { on := 13, ground := Ground.data }, { on := 15, ground := Ground.chain }, { on := 0, ground := Ground.phase }, { on := 1, ground := Ground.phase }, { on := 2, ground := Ground.phase }, { on := 3, ground := Ground.phase }, { on := 4, ground := Ground.phase }, { on := 5, ground := Ground.phase }, { on := 6, ground := Ground.phase }, { on := 7, ground := Ground.phase }, { on := 8, ground := Ground.phase }, { on := 9, ground := Ground.phase }, { on := 10, ground := Ground.phase }, { on := 11, ground := Ground.phase }, { on := 12, ground := Ground.phase }, { on := 13, ground := Ground.phase }, { on := 14, ground := Ground.phase }, { on := 15, ground := Ground.phase }], guard := none }) rfl (fun K hK => ?_) AllReadyH.nil)
              go_simp
              refine hK.out _ _ ?_ (fun hHeld => ?_)
              · exact trivial
              clear hK K
              try simp only [Act.put, List.setIfInBounds_toArray, List.set_cons_zero, List.set_cons_succ]
              refine wpAnyH_done (by kernel_rfl) ?_ _
              clear hHeld
              go_wp2_with fail
              go_roundw
              case rel => exact ⟨j, (l'.set (j + 1) y).set j x, by omega, by go_num, HF.out, by simp [hl'], HSUB3.out, hBB, hG6⟩
              case measure => simp [intOf]
          · have HF : Hid (insJ (fun x y => decide (cf x y < 0)) i l = l') := Lib.hid (by rw [HDJ.out, if_neg hc])
            go_wp2_with fail
            go_roundw
            case rel => exact ⟨i + 1, l', by omega, by omega, by go_num, by rw [HD.out, HF.out], hl', HSUB2.out, hown4, hG4⟩
            case measure => have := HI.out; simp [intOf]; omega
    · have hfin : isrt (fun x y => decide (cf x y < 0)) l0 = l := by rw [HE.out, show l0.length - i = 0 by omega, isF]
      go_wp2_with fail
      refine bodyPost_end (results_none rfl _ _ _) rfl ?_
      exact ⟨rfl, by rw [hfin]; exact hownr, hGr⟩
set_option maxRecDepth 100000 in
set_option maxHeartbeats 4000000 in
theorem stable_c (F : FuncId) (caps : Array Value) (cf : Int → Int → Int) (v : Value) (l0 : List Int) (base : Nat) (w : World) (hcf : ∀ (args : Array Value) (w : World), (callFunc F args).run Tryd.prog w = .ok (.enter F args) w)
    (hal : ∀ (x y : Int) (w' : World), x ∈ l0 → y ∈ l0 → GS (S1 v) w w' → Calls Tryd.prog F (#[.int .i64 x, .int .i64 y] ++ caps) w' fun e w'' => e = .returned (.int .i64 (cf x y)) ∧ G w' w'' none)
    (hown : OwnIn w base v l0) (hn : l0.length < 20) :
    Calls Tryd.prog 68 #[v, .int .i64 l0.length, .func (.func F) #[] caps] w fun e w' => e = .returned (.tuple #[]) ∧ OwnIn w' base v (isrt (fun x y => decide (cf x y < 0)) l0) ∧ GS (S1 v) w w' := by
  have CI := Lib.hid (insSort_c F caps cf v l0 base w hcf hal hown (by omega))
  have h1 : ¬ (20 : Int) ≤ (l0.length : Int) := by omega
  have h2 : ¬ (20 : Int) < (l0.length : Int) := by omega
  obtain ⟨a, cap, rfl, hcap, hm⟩ := RdR.form (c := inC) (Rd.of_owns hown)
  clear hal hown hcf
  go_enter Tryd.func68, Tryd.ntmps68
  go_wp2_with fail
  go_loopw [7, 8] (fun s7 s8 wr => s7 = .int .i64 0 ∧ s8 = .int .i64 20 ∧ wr = w) (fun _ _ _ => 0)
  case atStart => exact ⟨rfl, rfl, rfl⟩
  case round =>
    obtain ⟨rfl, rfl, rfl⟩ := hrel
    go_wp2_with fail
    refine CI.out.mono ?_; rintro e w2 ⟨rfl, hown2, hG2⟩
    go_wp2_with fail
    go_loopw [6, 7, 8, 9] (fun s6 _ _ _ wr => s6 = .int .i64 20 ∧ wr = w2) (fun _ _ _ _ _ => 0)
    case atStart => exact ⟨rfl, rfl⟩
    case round =>
      obtain ⟨rfl, rfl⟩ := hrel
      go_wp2_with fail
      refine bodyPost_end (results_none rfl _ _ _) rfl ?_
      exact ⟨rfl, hown2, hG2⟩
set_option maxRecDepth 100000 in
set_option maxHeartbeats 4000000 in
theorem sortStable_c (F : FuncId) (caps : Array Value) (cf : Int → Int → Int) (v : Value) (l0 : List Int) (base : Nat) (w : World) (hcf : ∀ (args : Array Value) (w : World), (callFunc F args).run Tryd.prog w = .ok (.enter F args) w)
    (hal : ∀ (x y : Int) (w' : World), x ∈ l0 → y ∈ l0 → GS (S1 v) w w' → Calls Tryd.prog F (#[.int .i64 x, .int .i64 y] ++ caps) w' fun e w'' => e = .returned (.int .i64 (cf x y)) ∧ G w' w'' none)
    (hown : OwnIn w base v l0) (hn : l0.length < 20) :
    Calls Tryd.prog 42 #[v, .func (.func F) #[] caps] w fun e w' => e = .returned (.tuple #[]) ∧ OwnIn w' base v (isrt (fun x y => decide (cf x y < 0)) l0) ∧ GS (S1 v) w w' := by
  have CI := Lib.hid (stable_c F caps cf v l0 base w hcf hal hown hn)
  obtain ⟨a, cap, rfl, hcap, hm⟩ := RdR.form (c := inC) (Rd.of_owns hown)
  clear hal hown hcf
  go_enter Tryd.func42, Tryd.ntmps42
  go_wp2_with fail
  refine CI.out.mono ?_; rintro e w2 ⟨rfl, hown2, hG2⟩
  go_wp2_with fail
  refine bodyPost_end (results_none rfl _ _ _) rfl ?_
  exact ⟨rfl, hown2, hG2⟩
end Go.Proofs.YtamoefnpfkcigaaDoor

/- Rates: compareRates, checkRate. -/
namespace Go.Proofs.YtamoefnpfkcigaaDoor
open Go.RowKit

/-- A rate: class, from, to, hour, day, weekend, week. -/
abbrev Ra := ByteArray × Int × Int × Int × Int × Int × Int
def raC (x : Ra) : Array Value := #[.string x.1, .int .i64 x.2.1, .int .i64 x.2.2.1, .int .i64 x.2.2.2.1, .int .i64 x.2.2.2.2.1, .int .i64 x.2.2.2.2.2.1, .int .i64 x.2.2.2.2.2.2]
theorem raC_sz (x : Ra) : (raC x).size = 7 := rfl
def raB (x : Ra) : Prop := Small x.1 ∧ bnd x.2.1 ∧ bnd x.2.2.1 ∧ bnd x.2.2.2.1 ∧ bnd x.2.2.2.2.1 ∧ bnd x.2.2.2.2.2.1 ∧ bnd x.2.2.2.2.2.2
def RaOk (l : List Ra) : Prop := ∀ x ∈ l, raB x
def cmpS (x y : Int) : Int := if x < y then -1 else if y < x then 1 else 0
def cmpR (x y : Ra) : Int := orI (cmpI x.1 y.1) (cmpS x.2.1 y.2.1)
set_option maxRecDepth 100000 in
theorem isNaN_c (x : Int) (w : World) : Calls Tryd.prog 69 #[.int .i64 x] w fun e w' => e = .returned (.bool false) ∧ w = w' := by
  go_enter Tryd.func69, Tryd.ntmps69
  go_wp2_with fail
  go_ret
  exact ⟨ret_bool (by simp), rfl⟩
set_option maxRecDepth 100000 in
theorem cmpInt_c (x y : Int) (w : World) : Calls Tryd.prog 44 #[.int .i64 x, .int .i64 y] w fun e w' => e = .returned (.int .i64 (cmpS x y)) ∧ w = w' := by
  rcases (show x < y ∨ y < x ∨ x = y by omega) with h | h | h
  · have HF : Hid (cmpS x y = -1) := Lib.hid (by simp [cmpS, h])
    go_enter Tryd.func44, Tryd.ntmps44
    go_wp2_with fail
    refine (isNaN_c _ _).mono ?_; rintro e w' ⟨rfl, rfl⟩
    go_wp2_with fail
    refine (isNaN_c _ _).mono ?_; rintro e w' ⟨rfl, rfl⟩
    go_wp2_with fail
    go_ret
    exact ⟨by rw [HF.out]; rfl, rfl⟩
  · have HF : Hid (cmpS x y = 1) := Lib.hid (by rw [cmpS, if_neg (by omega), if_pos h])
    go_enter Tryd.func44, Tryd.ntmps44
    go_wp2_with fail
    refine (isNaN_c _ _).mono ?_; rintro e w' ⟨rfl, rfl⟩
    go_wp2_with fail
    refine (isNaN_c _ _).mono ?_; rintro e w' ⟨rfl, rfl⟩
    go_wp2_with fail
    go_ret
    exact ⟨by rw [HF.out]; rfl, rfl⟩
  · have HF : Hid (cmpS x y = 0) := Lib.hid (by rw [cmpS, if_neg (by omega), if_neg (by omega)])
    go_enter Tryd.func44, Tryd.ntmps44
    go_wp2_with fail
    refine (isNaN_c _ _).mono ?_; rintro e w' ⟨rfl, rfl⟩
    go_wp2_with fail
    refine (isNaN_c _ _).mono ?_; rintro e w' ⟨rfl, rfl⟩
    go_wp2_with fail
    go_ret
    exact ⟨by rw [HF.out]; rfl, rfl⟩
def spanB (a z : Int) : Bool := decide (0 ≤ a) && (decide (a < z) && decide (z ≤ 4001))
def priceB (h d e v : Int) : Bool := inB h (-1) 1000000 && (inB d (-1) 1000000 && (inB e (-1) 1000000 && inB v (-1) 1000000))
def chE (x : Ra) : Int := if keyB x.1 = false then 5 else if spanB x.2.1 x.2.2.1 = false then 1 else if priceB x.2.2.2.1 x.2.2.2.2.1 x.2.2.2.2.2.1 x.2.2.2.2.2.2 = false then 1 else 0
end Go.Proofs.YtamoefnpfkcigaaDoor

/- Cents that are divided: mark.checkSplit, rentref2.SplitFault, cmp.Compare of ints. -/
namespace Go.Proofs.YtamoefnpfkcigaaDoor
open Go.RowKit

def spA (ws : List Int) : Bool := ws.all fun n => inB n 0 5761440
def spE (c : Int) (ws : List Int) : Int := if inB c 0 1000000000 = false then 1 else if 50 < ws.length then 2 else if spA ws = false then 1 else if ws.sum = 0 then 8 else 0
def spS (c : Int) (ws : List Int) : Int := if spE c ws = 0 then ws.sum else 0
abbrev RdI (w : World) (v : Value) (l : List Int) : Prop := RdR w 1 inC v l
theorem sum_take_succ (l : List Int) (k : Nat) (p : Int) (hp : l[k]? = some p) : (l.take (k + 1)).sum = (l.take k).sum + p := by
  rw [List.take_add_one, hp, List.sum_append]; simp
theorem spA_bnd {l : List Int} (h : ∀ n ∈ l, inB n 0 5761440 = true) : 0 ≤ l.sum ∧ l.sum ≤ 5761440 * (l.length : Int) := by
  induction l with
  | nil => simp
  | cons a r ih =>
    have h1 := h a List.mem_cons_self
    have h2 := ih (fun n hn => h n (List.mem_cons_of_mem _ hn))
    unfold inB at h1
    simp at h1
    simp only [List.sum_cons, List.length_cons]
    push_cast
    omega
theorem spA_false {l : List Int} {k : Nat} {p : Int} (hp : l[k]? = some p) (h : inB p 0 5761440 = false) : spA l = false := by
  unfold spA
  rw [Bool.eq_false_iff]
  intro q
  have := List.all_eq_true.1 q p (List.mem_of_getElem? hp)
  rw [h] at this
  cases this
def CspRel (w : World) (ws : List Int) (s6 i : Value) (wr : World) : Prop :=
  ∃ k : Nat, k ≤ ws.length ∧ i = .int .i64 k ∧ s6 = .int .i64 (ws.take k).sum ∧ (∀ n ∈ ws.take k, inB n 0 5761440 = true) ∧ G w wr none
theorem take_mem {l : List Int} {k : Nat} {p : Int} (hp : l[k]? = some p) (h : ∀ n ∈ l.take k, inB n 0 5761440 = true) (hb : inB p 0 5761440 = true) : ∀ n ∈ l.take (k + 1), inB n 0 5761440 = true := fun n hn => by
  rw [List.take_add_one, hp] at hn
  rcases List.mem_append.1 hn with hn | hn
  · exact h n hn
  · simp at hn; rw [hn]; exact hb
set_option maxRecDepth 100000 in
set_option maxHeartbeats 2000000 in
theorem isCents_c (n : Int) (w : World) : Calls Tryd.prog 67 #[.int .i64 n] w fun e w' => e = .returned (.bool (inB n 0 1000000000)) ∧ G w w' none := by
  go_enter Tryd.func67, Tryd.ntmps67
  go_wp2_with fail
  refine (within_c _ _ _ _).mono ?_; rintro e w' ⟨rfl, rfl⟩
  go_wp2_with fail
  go_ret
  exact ⟨rfl, G.refl _ _⟩
set_option maxRecDepth 100000 in
set_option maxHeartbeats 4000000 in
theorem checkSplit_c (c : Int) (v : Value) (ws : List Int) (w : World) (hr : RdI w v ws) (hn : ws.length ≤ 1000) :
    Calls Tryd.prog 40 #[.int .i64 c, v] w fun e w' => e = .returned (.tuple #[.int .i64 (spS c ws), .int .i64 (spE c ws)]) ∧ G w w' none := by
  have HR := Lib.hid hr
  obtain ⟨a, cap, rfl, hcap, hm⟩ := RdR.form hr
  clear hr
  have HE := Lib.hid (show spE c ws = if inB c 0 1000000000 = false then 1 else if 50 < ws.length then 2 else if spA ws = false then 1 else if ws.sum = 0 then 8 else 0 from rfl)
  have HS := Lib.hid (show spS c ws = if spE c ws = 0 then ws.sum else 0 from rfl)
  generalize spS c ws = S at HS ⊢
  generalize spE c ws = E at HE HS ⊢
  go_enter Tryd.func40, Tryd.ntmps40
  go_wp2_with fail
  refine (isCents_c _ _).mono ?_; rintro e w1 ⟨rfl, hG1⟩
  cases k1 : inB c 0 1000000000 with
  | false =>
    have hE : E = 1 := by rw [HE.out, if_pos k1]
    have hS : S = 0 := by rw [HS.out, hE]; rfl
    subst hE
    subst hS
    clear HE HS k1
    go_wp2_with fail
    go_ret2
    exact ⟨rfl, hG1⟩
  | true =>
    have HE1 : Hid (E = if 50 < ws.length then 2 else if spA ws = false then 1 else if ws.sum = 0 then 8 else 0) := Lib.hid (by rw [HE.out, if_neg (by simp [k1])])
    clear HE k1
    by_cases k2 : 50 < ws.length
    · have hE : E = 2 := by rw [HE1.out, if_pos k2]
      have hS : S = 0 := by rw [HS.out, hE]; rfl
      subst hE
      subst hS
      have k2' : (50 : Int) < (ws.length : Int) := by omega
      clear HE1 HS k2
      go_wp2_with fail
      go_ret2
      exact ⟨rfl, hG1⟩
    · have HE2 : Hid (E = if spA ws = false then 1 else if ws.sum = 0 then 8 else 0) := Lib.hid (by rw [HE1.out, if_neg k2])
      have k2' : ¬ (50 : Int) < (ws.length : Int) := by omega
      clear HE1
      go_wp2_with fail
      go_loopw [6, 17] (CspRel w ws) (fun _ i _ => ws.length - (intOf i).toNat)
      case atStart => exact ⟨0, by omega, rfl, rfl, fun n hn => by simp at hn, hG1⟩
      case round =>
        clear hG1
        obtain ⟨k, hk, rfl, rfl, hall, hG⟩ := hrel
        by_cases hlt : k < ws.length
        · obtain ⟨p, hp⟩ : ∃ p, ws[k]? = some p := ⟨_, List.getElem?_eq_getElem hlt⟩
          obtain ⟨bb, bo, rfl, -, -⟩ := RdR.elem inC_sz HR.out hG hp
          have hc := RdR.cell inC_sz HR.out hG hp 0 (.int .i64 p) rfl
          simp only [Nat.add_zero, Nat.mul_one] at hc
          have HP := Lib.hid hp
          have HK := Lib.hid hlt
          have hsb := spA_bnd hall
          have hlen : ((ws.take k).length : Int) ≤ 1000 := by rw [List.length_take]; omega
          clear hp
          go_wp2_with fail
          refine (within_c _ _ _ _).mono ?_; rintro e w' ⟨rfl, rfl⟩
          cases hb : inB p 0 5761440 with
          | false =>
            have hE : E = 1 := by rw [HE2.out, if_pos (spA_false HP.out hb)]
            have hS : S = 0 := by rw [HS.out, hE]; rfl
            subst hE
            subst hS
            clear HE2 HS hb
            go_wp2_with fail
            go_ret2
            exact ⟨rfl, hG⟩
          | true =>
            have hpb : 0 ≤ p ∧ p ≤ 5761440 := by unfold inB at hb; simpa using hb
            have hw : IntKind.i64.wrap ((ws.take k).sum + p) = (ws.take k).sum + p := by rw [IntKind.wrap_i64]; omega
            have HT := Lib.hid (sum_take_succ ws k p HP.out)
            have HA := Lib.hid (take_mem HP.out hall hb)
            generalize (ws.take k).sum = SK at hw HT hsb ⊢
            clear hb hsb hlen
            go_wp2_with fail
            go_roundw
            case rel => exact ⟨k + 1, by omega, by go_num, by rw [HT.out], HA.out, hG⟩
            case measure => have := HK.out; simp [intOf]; omega
        · obtain rfl : k = ws.length := by omega
          rw [List.take_length] at hall ⊢
          have ha : spA ws = true := List.all_eq_true.2 hall
          have HE3 : Hid (E = if ws.sum = 0 then 8 else 0) := Lib.hid (by rw [HE2.out, if_neg (by simp [ha])])
          clear HE2 ha hall
          generalize ws.sum = SM at HE3 HS ⊢
          by_cases h0 : SM = 0
          · have hE : E = 8 := by rw [HE3.out, if_pos h0]
            have hS : S = 0 := by rw [HS.out, hE]; rfl
            subst hE
            subst hS
            subst h0
            clear HE3 HS
            go_wp2_with fail
            go_ret2
            exact ⟨rfl, hG⟩
          · have hE : E = 0 := by rw [HE3.out, if_neg h0]
            have hS : S = SM := by rw [HS.out, if_pos hE]
            have h0' : (SM == 0) = false := by simpa using h0
            subst hE
            subst hS
            clear HE3 HS h0
            go_wp2_with fail
            go_ret2
            exact ⟨rfl, hG⟩
/-- What cmp.Compare returns. -/
def cpI (a b : Int) : Int := if a < b then -1 else if b < a then 1 else 0
set_option maxRecDepth 100000 in
set_option maxHeartbeats 2000000 in
theorem isNaNi_c (n : Int) (w : World) : Calls Tryd.prog 69 #[.int .i64 n] w fun e w' => e = .returned (.bool false) ∧ w = w' := by
  have h : (n != n) = false := by simp
  go_enter Tryd.func69, Tryd.ntmps69
  go_wp2_with fail
  go_ret
  exact ⟨rfl, rfl⟩
set_option maxRecDepth 100000 in
set_option maxHeartbeats 2000000 in
theorem compareI_c (a b : Int) (w : World) : Calls Tryd.prog 44 #[.int .i64 a, .int .i64 b] w fun e w' => e = .returned (.int .i64 (cpI a b)) ∧ w = w' := by
  obtain ⟨R, hR⟩ : ∃ R, cpI a b = R := ⟨_, rfl⟩
  have HR : Hid (R = if a < b then -1 else if b < a then 1 else 0) := Lib.hid (by rw [← hR]; rfl)
  rw [hR]
  clear hR
  go_enter Tryd.func44, Tryd.ntmps44
  go_wp2_with fail
  refine (isNaNi_c _ _).mono ?_; rintro e w' ⟨rfl, rfl⟩
  go_wp2_with fail
  refine (isNaNi_c _ _).mono ?_; rintro e w' ⟨rfl, rfl⟩
  by_cases h1 : a < b
  · obtain rfl : R = -1 := by rw [HR.out, if_pos h1]
    clear HR
    go_wp2_with fail
    go_ret
    exact ⟨rfl, rfl⟩
  · by_cases h2 : b < a
    · obtain rfl : R = 1 := by rw [HR.out, if_neg h1, if_pos h2]
      clear HR
      go_wp2_with fail
      go_ret
      exact ⟨rfl, rfl⟩
    · obtain rfl : R = 0 := by rw [HR.out, if_neg h1, if_neg h2]
      clear HR
      go_wp2_with fail
      go_ret
      exact ⟨rfl, rfl⟩
end Go.Proofs.YtamoefnpfkcigaaDoor

/- Cents that are divided: the reference's check; the functions that Split hands on. Written by genspd.py. -/
namespace Go.Proofs.YtamoefnpfkcigaaDoor
open Go.RowKit

set_option maxRecDepth 100000 in
theorem in2_c (a lo hi : Int) (w : World) : Calls Tryd.prog 45 #[.int .i64 a, .int .i64 lo, .int .i64 hi] w fun e w' => e = .returned (.bool (inB a lo hi)) ∧ w = w' := by
  by_cases h1 : lo ≤ a
  · by_cases h2 : a ≤ hi
    · have HF : Hid (inB a lo hi = true) := Lib.hid (by simp [inB, h1, h2])
      go_enter Tryd.func45, Tryd.ntmps45
      go_wp2_with fail
      go_ret
      exact ⟨by rw [HF.out]; rfl, rfl⟩
    · have HF : Hid (inB a lo hi = false) := Lib.hid (by simp [inB, h2])
      go_enter Tryd.func45, Tryd.ntmps45
      go_wp2_with fail
      go_ret
      exact ⟨by rw [HF.out]; rfl, rfl⟩
  · have HF : Hid (inB a lo hi = false) := Lib.hid (by simp [inB, h1])
    go_enter Tryd.func45, Tryd.ntmps45
    go_wp2_with fail
    go_ret
    exact ⟨by rw [HF.out]; rfl, rfl⟩
set_option maxRecDepth 100000 in
set_option maxHeartbeats 4000000 in
theorem splitFault_c (c : Int) (v : Value) (ws : List Int) (w : World) (hr : RdI w v ws) (hn : ws.length ≤ 1000) :
    Calls Tryd.prog 9 #[.int .i64 c, v] w fun e w' => e = .returned (.int .i64 (spE c ws)) ∧ G w w' none := by
  have HR := Lib.hid hr
  obtain ⟨a, cap, rfl, hcap, hm⟩ := RdR.form hr
  clear hr
  have HE := Lib.hid (show spE c ws = if inB c 0 1000000000 = false then 1 else if 50 < ws.length then 2 else if spA ws = false then 1 else if ws.sum = 0 then 8 else 0 from rfl)
  generalize spE c ws = E at HE ⊢
  go_enter Tryd.func9, Tryd.ntmps9
  go_wp2_with fail
  refine (in2_c _ _ _ _).mono ?_; rintro e w1 ⟨rfl, rfl⟩
  have hG1 := G.refl w none
  cases k1 : inB c 0 1000000000 with
  | false =>
    have hE : E = 1 := by rw [HE.out, if_pos k1]
    subst hE
    clear HE k1
    go_wp2_with fail
    go_ret
    exact ⟨rfl, hG1⟩
  | true =>
    have HE1 : Hid (E = if 50 < ws.length then 2 else if spA ws = false then 1 else if ws.sum = 0 then 8 else 0) := Lib.hid (by rw [HE.out, if_neg (by simp [k1])])
    clear HE k1
    by_cases k2 : 50 < ws.length
    · have hE : E = 2 := by rw [HE1.out, if_pos k2]
      subst hE
      have k2' : (50 : Int) < (ws.length : Int) := by omega
      clear HE1 k2
      go_wp2_with fail
      go_ret
      exact ⟨rfl, hG1⟩
    · have HE2 : Hid (E = if spA ws = false then 1 else if ws.sum = 0 then 8 else 0) := Lib.hid (by rw [HE1.out, if_neg k2])
      have k2' : ¬ (50 : Int) < (ws.length : Int) := by omega
      clear HE1
      go_wp2_with fail
      go_loopw [5, 16] (CspRel w ws) (fun _ i _ => ws.length - (intOf i).toNat)
      case atStart => exact ⟨0, by omega, rfl, rfl, fun n hn => by simp at hn, hG1⟩
      case round =>
        clear hG1
        obtain ⟨k, hk, rfl, rfl, hall, hG⟩ := hrel
        by_cases hlt : k < ws.length
        · obtain ⟨p, hp⟩ : ∃ p, ws[k]? = some p := ⟨_, List.getElem?_eq_getElem hlt⟩
          obtain ⟨bb, bo, rfl, -, -⟩ := RdR.elem inC_sz HR.out hG hp
          have hc := RdR.cell inC_sz HR.out hG hp 0 (.int .i64 p) rfl
          simp only [Nat.add_zero, Nat.mul_one] at hc
          have HP := Lib.hid hp
          have HK := Lib.hid hlt
          have hsb := spA_bnd hall
          have hlen : ((ws.take k).length : Int) ≤ 1000 := by rw [List.length_take]; omega
          clear hp
          go_wp2_with fail
          refine (in2_c _ _ _ _).mono ?_; rintro e w' ⟨rfl, rfl⟩
          cases hb : inB p 0 5761440 with
          | false =>
            have hE : E = 1 := by rw [HE2.out, if_pos (spA_false HP.out hb)]
            subst hE
            clear HE2 hb
            go_wp2_with fail
            go_ret
            exact ⟨rfl, hG⟩
          | true =>
            have hpb : 0 ≤ p ∧ p ≤ 5761440 := by unfold inB at hb; simpa using hb
            have hw : IntKind.i64.wrap ((ws.take k).sum + p) = (ws.take k).sum + p := by rw [IntKind.wrap_i64]; omega
            have HT := Lib.hid (sum_take_succ ws k p HP.out)
            have HA := Lib.hid (take_mem HP.out hall hb)
            generalize (ws.take k).sum = SK at hw HT hsb ⊢
            clear hb hsb hlen
            go_wp2_with fail
            go_roundw
            case rel => exact ⟨k + 1, by omega, by go_num, by rw [HT.out], HA.out, hG⟩
            case measure => have := HK.out; simp [intOf]; omega
        · obtain rfl : k = ws.length := by omega
          rw [List.take_length] at hall ⊢
          have ha : spA ws = true := List.all_eq_true.2 hall
          have HE3 : Hid (E = if ws.sum = 0 then 8 else 0) := Lib.hid (by rw [HE2.out, if_neg (by simp [ha])])
          clear HE2 ha hall
          generalize ws.sum = SM at HE3 ⊢
          by_cases h0 : SM = 0
          · have hE : E = 8 := by rw [HE3.out, if_pos h0]
            subst hE
            subst h0
            clear HE3
            go_wp2_with fail
            go_ret
            exact ⟨rfl, hG⟩
          · have hE : E = 0 := by rw [HE3.out, if_neg h0]
            have h0' : (SM == 0) = false := by simpa using h0
            subst hE
            clear HE3 h0
            go_wp2_with fail
            go_ret
            exact ⟨rfl, hG⟩
theorem spE_ok {c : Int} {ws : List Int} (h : spE c ws = 0) : (0 ≤ c ∧ c ≤ 1000000000) ∧ ws.length ≤ 50 ∧ (∀ n ∈ ws, inB n 0 5761440 = true) ∧ ws.sum ≠ 0 := by
  unfold spE at h
  split at h
  · cases h
  · next h1 =>
    split at h
    · cases h
    · next h2 =>
      split at h
      · cases h
      · next h3 =>
        split at h
        · cases h
        · next h4 =>
          refine ⟨by have : inB c 0 1000000000 = true := by simpa using h1
                     unfold inB at this; simpa using this, by omega, ?_, h4⟩
          have h5 : spA ws = true := by simpa using h3
          exact List.all_eq_true.1 h5
/-- What is left over of a part. -/
def restI (c : Int) (ws : List Int) (i : Nat) : Int := c * (ws.getD i 0) % ws.sum
def ArgsI (w : World) (gC gW gS : Nat) (c s : Int) (v : Value) : Prop := Bk w gC 3 #[.int .i64 c] ∧ Bk w gW 22 #[v] ∧ Bk w gS 3 #[.int .i64 s]
set_option maxRecDepth 100000 in
set_option maxHeartbeats 4000000 in
theorem rest_c (c : Int) (ws : List Int) (v : Value) (i : Nat) (gC gW gS : Nat) (w : World) (he : spE c ws = 0) (hi : i < ws.length) (hC : Bk w gC 3 #[.int .i64 c]) (hW : Bk w gW 22 #[v]) (hS : Bk w gS 3 #[.int .i64 ws.sum]) (hr : RdI w v ws) :
    Calls Tryd.prog 41 #[.int .i64 i, .pointer (some ⟨gC, 0, none⟩), .pointer (some ⟨gW, 0, none⟩), .pointer (some ⟨gS, 0, none⟩)] w fun e w' => e = .returned (.int .i64 (restI c ws i)) ∧ G w w' none := by
  obtain ⟨p, hp⟩ : ∃ p, ws[i]? = some p := ⟨_, List.getElem?_eq_getElem hi⟩
  obtain ⟨h1, h2, h3, h4⟩ := spE_ok he
  have hpb : 0 ≤ p ∧ p ≤ 5761440 := by have := h3 p (List.mem_of_getElem? hp); unfold inB at this; simpa using this
  have hR : restI c ws i = c * p % ws.sum := by unfold restI; rw [List.getD_eq_getElem?_getD, hp]; rfl
  obtain ⟨a, cap, rfl, hcap, hm⟩ := RdR.form hr
  obtain ⟨bb, bo, rfl, -, -⟩ := RdR.elem inC_sz hr (G.refl w none) hp
  have hc := RdR.cell inC_sz hr (G.refl w none) hp 0 (.int .i64 p) rfl
  simp only [Nat.add_zero, Nat.mul_one] at hc
  have hsb := (spA_bnd h3)
  have hp1 : 0 ≤ c * p := Int.mul_nonneg h1.1 hpb.1
  have hp2 : c * p ≤ 1000000000 * 5761440 := Int.mul_le_mul h1.2 hpb.2 hpb.1 (by omega)
  have hin : (i : Int) < (ws.length : Int) := by omega
  rw [hR]
  clear hR hr hp h3 he
  generalize ws.sum = s at hS h4 hsb ⊢
  have hs0 : 0 < s := by omega
  obtain ⟨m, hm2⟩ : ∃ m, c * p = m := ⟨_, rfl⟩
  have hw1 : IntKind.i64.wrap (c * p) = m := by rw [hm2, IntKind.wrap_i64]; omega
  rw [hm2] at hp1 hp2
  rw [hm2]
  have htm : m.tmod s = m % s := Int.tmod_eq_emod_of_nonneg hp1
  have hmw : IntKind.i64.wrap (m % s) = m % s := by have q1 := Int.emod_nonneg m (show s ≠ 0 by omega); have q2 := Int.emod_lt_of_pos m hs0; rw [IntKind.wrap_i64]; omega
  have hsn : ¬ s = 0 := by omega
  have hG := (G.refl w none).drew
  clear hm2 h1 h2 h4 hsb hs0
  go_enter Tryd.func41, Tryd.ntmps41
  go_upto_region 1 with fail
  refine wp_region_held_drew (S := (fun w' : World => w'.cell? ⟨gC, 0, none⟩ = some (.int .i64 c) ∧ w'.cell? ⟨gW, 0, none⟩ = some (.slice (some ⟨bb, bo, none⟩) ws.length cap) ∧ w'.cell? ⟨gS, 0, none⟩ = some (.int .i64 s) ∧ w'.cell? ⟨bb, bo + i, none⟩ = some (.int .i64 p))) (by kernel_rfl) ?_ (fun hHeld => ?_)
  · exact ⟨hC.cell 0, hW.cell 0, hS.cell 0, hc⟩
  refine wpAnyH_take (i := 0) (oi := { dst := some 6, op := Op.load 3 (Operand.tmp 1), type := 3, pos := _, after := #[], guard := none }) (v := ?_) rfl (by kernel_rfl) (by kernel_rfl) (by kernel_rfl) (fun _ _ _ h => h) (Or.inl ⟨by rfl, ?_⟩) (by assumption) ?_
  rotate_left
  · (intro w hSw; obtain ⟨z0, z1, z2, z3⟩ := hSw; (go_simp <;> with_reducible rfl))
  try simp only [Act.put, List.setIfInBounds_toArray, List.set_cons_zero, List.set_cons_succ]
  refine wpAnyH_take (i := 1) (oi := { dst := some 7, op := Op.load 22 (Operand.tmp 2), type := 22, pos := _, after := #[], guard := none }) (v := ?_) rfl (by kernel_rfl) (by kernel_rfl) (by kernel_rfl) (fun _ _ _ h => h) (Or.inl ⟨by rfl, ?_⟩) (by assumption) ?_
  rotate_left
  · (intro w hSw; obtain ⟨z0, z1, z2, z3⟩ := hSw; (go_simp <;> with_reducible rfl))
  try simp only [Act.put, List.setIfInBounds_toArray, List.set_cons_zero, List.set_cons_succ]
  refine wpAnyH_take (i := 2) (oi := { dst := some 8, op := Op.move (Operand.tmp 0), type := 3, pos := _, after := #[], guard := none }) (v := ?_) rfl (by kernel_rfl) (by kernel_rfl) (by kernel_rfl) (fun _ _ _ h => h) (Or.inl ⟨by rfl, ?_⟩) (by assumption) ?_
  rotate_left
  · (intro w hSw; obtain ⟨z0, z1, z2, z3⟩ := hSw; (go_simp <;> with_reducible rfl))
  try simp only [Act.put, List.setIfInBounds_toArray, List.set_cons_zero, List.set_cons_succ]
  refine wpAnyH_take (i := 3) (oi := { dst := some 9, op := Op.indexAddr 22 (Operand.tmp 7) (Operand.tmp 8), type := 0, pos := _, after := #[{ on := 1, ground := Ground.data }, { on := 2, ground := Ground.data }], guard := none }) (v := ?_) rfl (by kernel_rfl) (by kernel_rfl) (by kernel_rfl) (fun _ _ _ h => h) (Or.inl ⟨by rfl, ?_⟩) (by assumption) ?_
  rotate_left
  · (intro w hSw; obtain ⟨z0, z1, z2, z3⟩ := hSw; (go_simp <;> with_reducible rfl))
  try simp only [Act.put, List.setIfInBounds_toArray, List.set_cons_zero, List.set_cons_succ]
  refine wpAnyH_take (i := 4) (oi := { dst := some 10, op := Op.load 3 (Operand.tmp 9), type := 3, pos := _, after := #[{ on := 3, ground := Ground.data }], guard := none }) (v := ?_) rfl (by kernel_rfl) (by kernel_rfl) (by kernel_rfl) (fun _ _ _ h => h) (Or.inl ⟨by rfl, ?_⟩) (by assumption) ?_
  rotate_left
  · (intro w hSw; obtain ⟨z0, z1, z2, z3⟩ := hSw; (go_simp <;> with_reducible rfl))
  try simp only [Act.put, List.setIfInBounds_toArray, List.set_cons_zero, List.set_cons_succ]
  refine wpAnyH_take (i := 5) (oi := { dst := some 11, op := Op.binOp BinOp.mul 3 (Operand.tmp 6) (Operand.tmp 10) 3, type := 3, pos := _, after := #[{ on := 0, ground := Ground.data }, { on := 4, ground := Ground.data }], guard := none }) (v := ?_) rfl (by kernel_rfl) (by kernel_rfl) (by kernel_rfl) (fun _ _ _ h => h) (Or.inl ⟨by rfl, ?_⟩) (by assumption) ?_
  rotate_left
  · (intro w hSw; obtain ⟨z0, z1, z2, z3⟩ := hSw; (go_simp <;> with_reducible rfl))
  try simp only [Act.put, List.setIfInBounds_toArray, List.set_cons_zero, List.set_cons_succ]
  refine wpAnyH_take (i := 6) (oi := { dst := some 12, op := Op.load 3 (Operand.tmp 3), type := 3, pos := _, after := #[], guard := none }) (v := ?_) rfl (by kernel_rfl) (by kernel_rfl) (by kernel_rfl) (fun _ _ _ h => h) (Or.inl ⟨by rfl, ?_⟩) (by assumption) ?_
  rotate_left
  · (intro w hSw; obtain ⟨z0, z1, z2, z3⟩ := hSw; (go_simp <;> with_reducible rfl))
  try simp only [Act.put, List.setIfInBounds_toArray, List.set_cons_zero, List.set_cons_succ]
  refine wpAnyH_take (i := 7) (oi := { dst := some 13, op := Op.binOp BinOp.rem 3 (Operand.tmp 11) (Operand.tmp 12) 3, type := 3, pos := _, after := #[{ on := 5, ground := Ground.data }, { on := 6, ground := Ground.data }], guard := none }) (v := ?_) rfl (by kernel_rfl) (by kernel_rfl) (by kernel_rfl) (fun _ _ _ h => h) (Or.inl ⟨by rfl, ?_⟩) (by assumption) ?_
  rotate_left
  · (intro w hSw; obtain ⟨z0, z1, z2, z3⟩ := hSw; (go_simp <;> with_reducible rfl))
  try simp only [Act.put, List.setIfInBounds_toArray, List.set_cons_zero, List.set_cons_succ]
  refine wpAnyH_take (i := 8) (oi := { dst := some 5, op := Op.assign (Operand.tmp 13), type := 3, pos := _, after := #[{ on := 7, ground := Ground.data }, { on := 0, ground := Ground.phase }, { on := 1, ground := Ground.phase }, { on := 2, ground := Ground.phase }, { on := 3, ground := Ground.phase }, { on := 4, ground := Ground.phase }, { on := 5, ground := Ground.phase }, { on := 6, ground := Ground.phase }, { on := 7, ground := Ground.phase }], guard := none }) (v := ?_) rfl (by kernel_rfl) (by kernel_rfl) (by kernel_rfl) (fun _ _ _ h => h) (Or.inl ⟨by rfl, ?_⟩) (by assumption) ?_
  rotate_left
  · (intro w hSw; obtain ⟨z0, z1, z2, z3⟩ := hSw; (go_simp <;> with_reducible rfl))
  try simp only [Act.put, List.setIfInBounds_toArray, List.set_cons_zero, List.set_cons_succ]
  refine wpAnyH_done (by kernel_rfl) ?_ _
  go_wp2_with fail
  go_ret
  exact ⟨rfl, hG⟩
end Go.Proofs.YtamoefnpfkcigaaDoor

/- The rules of tolls: their checks. Written by gentlr.py. -/
namespace Go.Proofs.YtamoefnpfkcigaaDoor
open Go.RowKit

/-- The rules of tolls: double, cap, fee. -/
abbrev Tr := Int × Int × Int
def trC (x : Tr) : Array Value := #[.int .i64 x.1, .int .i64 x.2.1, .int .i64 x.2.2]
def trE (x : Tr) : Int := if inB x.1 0 1440 = false then 1 else if inB x.2.1 (-1) 1000000 = false then 1 else if inB x.2.2 0 1000000 = false then 1 else 0
theorem isRate_c (n : Int) (w : World) : Calls Tryd.prog 56 #[.int .i64 n] w fun e w' => e = .returned (.bool (inB n 0 1000000)) ∧ w = w' := by
  go_enter Tryd.func56, Tryd.ntmps56
  go_wp2_with fail
  refine (within_c n 0 1000000 _).mono ?_; rintro e w' ⟨rfl, rfl⟩
  go_wp2_with fail
  go_ret
  exact ⟨rfl, rfl⟩
def kn (s : ByteArray) : Bool := decide (s = ⟨#[]⟩) || keyB s
set_option maxHeartbeats 1000000 in
theorem nobody_c (s : ByteArray) (w : World) (hs : Small s) : Calls Tryd.prog 75 #[.string s] w fun e w' => e = .returned (.bool (kn s)) ∧ w = w' := by
  by_cases h0 : s = ⟨#[]⟩
  · have hk : kn s = true := by unfold kn; rw [decide_eq_true h0]; rfl
    rw [hk]
    subst h0
    clear hk
    go_enter Tryd.func75, Tryd.ntmps75
    go_wp2_with fail
    go_ret
    exact ⟨rfl, rfl⟩
  · have hk : kn s = keyB s := by unfold kn; rw [decide_eq_false h0]; rfl
    rw [hk]
    clear hk
    have hze := isE_of (s := s) (by rcases Nat.eq_zero_or_pos s.size with q | q; exact absurd (empty_of q) h0; exact q)
    unfold Small at hs
    go_enter Tryd.func75, Tryd.ntmps75
    go_wp2_with fail
    refine (isKey_c _ _ hs).mono ?_; rintro e w1 ⟨rfl, rfl⟩
    go_wp2_with fail
    go_ret
    exact ⟨rfl, rfl⟩
set_option maxRecDepth 100000 in
set_option maxHeartbeats 2000000 in
theorem tollRules_c (x : Tr) (w : World) : Calls Tryd.prog 24 #[.agg (trC x)] w fun e w' => e = .returned (.int .i64 (trE x)) ∧ G w w' none := by
  obtain ⟨d, c, f⟩ := x
  have HE := Lib.hid (show trE (d, c, f) = if inB d 0 1440 = false then 1 else if inB c (-1) 1000000 = false then 1 else if inB f 0 1000000 = false then 1 else 0 from rfl)
  generalize trE (d, c, f) = E at HE ⊢
  have hB : Bk (w.alloc (.cells #[.int .i64 d, .int .i64 c, .int .i64 f] 51)) w.heap.size 51 #[.int .i64 d, .int .i64 c, .int .i64 f] := Bk.new _ _ _
  have hG := (G.refl w none).alloc (.cells #[.int .i64 d, .int .i64 c, .int .i64 f] 51)
  show Calls Tryd.prog 24 #[.agg #[.int .i64 d, .int .i64 c, .int .i64 f]] w _
  go_enter Tryd.func24, Tryd.ntmps24
  go_upto_region 1 with fail
  generalize w.alloc (.cells #[.int .i64 d, .int .i64 c, .int .i64 f] 51) = w1 at hB hG ⊢
  generalize w.heap.size = g at hB ⊢
  have c0 : w1.cell? ⟨g, 0, none⟩ = some (.int .i64 d) := hB.cell 0
  have c1 : w1.cell? ⟨g, 1, none⟩ = some (.int .i64 c) := hB.cell 1
  have c2 : w1.cell? ⟨g, 2, none⟩ = some (.int .i64 f) := hB.cell 2
  go_wp2_with fail
  refine (within_c d 0 1440 _).mono ?_; rintro e w' ⟨rfl, rfl⟩
  cases k0 : inB d 0 1440 with
  | false =>
    obtain rfl : E = 1 := by rw [HE.out, if_pos k0]
    go_wp2_with fail
    go_ret
    exact ⟨rfl, hG⟩
  | true =>
    have K0 := Lib.hid k0
    clear k0
    go_wp2_with fail
    refine (within_c c (-1) 1000000 _).mono ?_; rintro e w' ⟨rfl, rfl⟩
    cases k1 : inB c (-1) 1000000 with
    | false =>
      obtain rfl : E = 1 := by rw [HE.out, if_neg (by simp [K0.out]), if_pos k1]
      go_wp2_with fail
      go_ret
      exact ⟨rfl, hG⟩
    | true =>
      have K1 := Lib.hid k1
      clear k1
      go_wp2_with fail
      refine (isRate_c f _).mono ?_; rintro e w' ⟨rfl, rfl⟩
      cases k2 : inB f 0 1000000 with
      | false =>
        obtain rfl : E = 1 := by rw [HE.out, if_neg (by simp [K0.out]), if_neg (by simp [K1.out]), if_pos k2]
        go_wp2_with fail
        go_ret
        exact ⟨rfl, hG⟩
      | true =>
        have K2 := Lib.hid k2
        clear k2
        obtain rfl : E = 0 := by rw [HE.out, if_neg (by simp [K0.out]), if_neg (by simp [K1.out]), if_neg (by simp [K2.out])]
        go_wp2_with fail
        go_ret
        exact ⟨rfl, hG⟩
set_option maxRecDepth 100000 in
set_option maxHeartbeats 2000000 in
theorem tollFault_c (x : Tr) (w : World) : Calls Tryd.prog 23 #[.agg (trC x)] w fun e w' => e = .returned (.int .i64 (trE x)) ∧ G w w' none := by
  obtain ⟨d, c, f⟩ := x
  have HE := Lib.hid (show trE (d, c, f) = if inB d 0 1440 = false then 1 else if inB c (-1) 1000000 = false then 1 else if inB f 0 1000000 = false then 1 else 0 from rfl)
  generalize trE (d, c, f) = E at HE ⊢
  have hB : Bk (w.alloc (.cells #[.int .i64 d, .int .i64 c, .int .i64 f] 51)) w.heap.size 51 #[.int .i64 d, .int .i64 c, .int .i64 f] := Bk.new _ _ _
  have hG := (G.refl w none).alloc (.cells #[.int .i64 d, .int .i64 c, .int .i64 f] 51)
  show Calls Tryd.prog 23 #[.agg #[.int .i64 d, .int .i64 c, .int .i64 f]] w _
  go_enter Tryd.func23, Tryd.ntmps23
  go_upto_region 1 with fail
  generalize w.alloc (.cells #[.int .i64 d, .int .i64 c, .int .i64 f] 51) = w1 at hB hG ⊢
  generalize w.heap.size = g at hB ⊢
  have c0 : w1.cell? ⟨g, 0, none⟩ = some (.int .i64 d) := hB.cell 0
  have c1 : w1.cell? ⟨g, 1, none⟩ = some (.int .i64 c) := hB.cell 1
  have c2 : w1.cell? ⟨g, 2, none⟩ = some (.int .i64 f) := hB.cell 2
  go_wp2_with fail
  refine (in2_c d 0 1440 _).mono ?_; rintro e w' ⟨rfl, rfl⟩
  cases k0 : inB d 0 1440 with
  | false =>
    obtain rfl : E = 1 := by rw [HE.out, if_pos k0]
    go_wp2_with fail
    go_ret
    exact ⟨rfl, hG⟩
  | true =>
    have K0 := Lib.hid k0
    clear k0
    go_wp2_with fail
    refine (in2_c c (-1) 1000000 _).mono ?_; rintro e w' ⟨rfl, rfl⟩
    cases k1 : inB c (-1) 1000000 with
    | false =>
      obtain rfl : E = 1 := by rw [HE.out, if_neg (by simp [K0.out]), if_pos k1]
      go_wp2_with fail
      go_ret
      exact ⟨rfl, hG⟩
    | true =>
      have K1 := Lib.hid k1
      clear k1
      go_wp2_with fail
      refine (in2_c f 0 1000000 _).mono ?_; rintro e w' ⟨rfl, rfl⟩
      cases k2 : inB f 0 1000000 with
      | false =>
        obtain rfl : E = 1 := by rw [HE.out, if_neg (by simp [K0.out]), if_neg (by simp [K1.out]), if_pos k2]
        go_wp2_with fail
        go_ret
        exact ⟨rfl, hG⟩
      | true =>
        have K2 := Lib.hid k2
        clear k2
        obtain rfl : E = 0 := by rw [HE.out, if_neg (by simp [K0.out]), if_neg (by simp [K1.out]), if_neg (by simp [K2.out])]
        go_wp2_with fail
        go_ret
        exact ⟨rfl, hG⟩
end Go.Proofs.YtamoefnpfkcigaaDoor

/- Passages: basic.IsPlate, toll.comparePassages, toll.checkForm. Written by genpas.py. -/
namespace Go.Proofs.YtamoefnpfkcigaaDoor
open Go.RowKit

/-! ### Plates -/
def plC (c : Int) : Bool := dg c || (decide (65 ≤ c) && decide (c ≤ 90))
def plB (s : ByteArray) : Bool := decide (2 ≤ s.size) && (decide (s.size ≤ 10) && s.data.toList.all fun c => plC c.toNat)
theorem plB_of {s : ByteArray} (h : 2 ≤ s.size) (h2 : s.size ≤ 10) : plB s = s.data.toList.all fun c => plC c.toNat := by simp [plB, h, h2]
theorem plB_no {s : ByteArray} (h : s.size < 2 ∨ 10 < s.size) : plB s = false := by
  unfold plB
  rcases h with h | h
  · rw [decide_eq_false (by omega)]; rfl
  · rw [decide_eq_false (show ¬ s.size ≤ 10 by omega)]; simp
theorem pl_no (s : ByteArray) (k : Nat) (hk : k < s.size) (h : plC (s[k].toNat : Int) = false) : (s.data.toList.all fun c => plC c.toNat) = false := by
  rw [List.all_eq_false]
  refine ⟨s[k], ?_, by simp [h]⟩
  exact List.mem_of_getElem? (get_data s k hk)
set_option maxHeartbeats 2000000 in
theorem isPlate_c (s : ByteArray) (w : World) (hs : s.size ≤ 9223372036854775807) : Calls Tryd.prog 99 #[.string s] w fun e w' => e = .returned (.bool (plB s)) ∧ w = w' := by
  obtain ⟨B, hB⟩ : ∃ B, plB s = B := ⟨_, rfl⟩
  have H0 := Lib.hid hB
  rw [hB]
  clear hB
  by_cases h1 : s.size < 2
  · obtain rfl : B = false := by rw [← H0.out, plB_no (.inl h1)]
    go_enter Tryd.func99, Tryd.ntmps99
    go_wp2_with fail
    go_ret
    exact ⟨rfl, rfl⟩
  by_cases h2 : 10 < s.size
  · obtain rfl : B = false := by rw [← H0.out, plB_no (.inr h2)]
    go_enter Tryd.func99, Tryd.ntmps99
    go_wp2_with fail
    go_ret
    exact ⟨rfl, rfl⟩
  have H := Lib.hid (H0.out.symm.trans (plB_of (by omega) (by omega)))
  go_enter Tryd.func99, Tryd.ntmps99
  go_wp2_with fail
  go_loop [15] (fun i => ∃ k : Nat, k ≤ s.size ∧ i = .int .i64 k ∧ (s.data.toList.take k).all (fun c => plC c.toNat) = true) (fun i => s.size - (intOf i).toNat)
  case atStart => exact ⟨0, Nat.zero_le _, rfl, by simp⟩
  case round =>
    obtain ⟨k, hk, rfl, hall⟩ := hrel
    have HA := Lib.hid hall
    clear hall
    by_cases hlt : k < s.size
    · have HN : Hid (plC (s[k].toNat : Int) = true → (s.data.toList.take (k + 1)).all (fun c => plC c.toNat) = true) := Lib.hid (fun hkc => by rw [take_snoc s k hlt, List.all_append, HA.out, Bool.true_and, List.all_cons, hkc, List.all_nil]; rfl)
      have HF : Hid (plC (s[k].toNat : Int) = false → B = false) := Lib.hid (fun hkc => by rw [H.out, pl_no s k hlt hkc])
      have HD : Hid (plC (s[k].toNat : Int) = (dg (s[k].toNat : Int) || (decide (65 ≤ (s[k].toNat : Int)) && decide ((s[k].toNat : Int) ≤ 90)))) := Lib.hid rfl
      go_wp2_with fail
      refine (digit_c _ _).mono ?_; rintro e w' ⟨rfl, rfl⟩
      cases hdg : dg (s[k].toNat : Int) with
      | true =>
        have HP : Hid ((s.data.toList.take (k + 1)).all (fun c => plC c.toNat) = true) := Lib.hid (HN.out (by rw [HD.out, hdg]; rfl))
        clear hdg
        go_wp2_with fail
        go_round
        case rel => exact ⟨k + 1, by omega, by go_num, HP.out⟩
        case measure => simp [intOf]; omega
      | false =>
        by_cases h65 : 65 ≤ (s[k].toNat : Int)
        · by_cases h90 : (s[k].toNat : Int) ≤ 90
          · have HP : Hid ((s.data.toList.take (k + 1)).all (fun c => plC c.toNat) = true) := Lib.hid (HN.out (by rw [HD.out, hdg, decide_eq_true h65, decide_eq_true h90]; rfl))
            have h3 : ¬ (s[k].toNat : Int) < 65 := by omega
            have h4 : ¬ 90 < (s[k].toNat : Int) := by omega
            clear hdg
            go_wp2_with fail
            go_round
            case rel => exact ⟨k + 1, by omega, by go_num, HP.out⟩
            case measure => simp [intOf]; omega
          · obtain rfl : B = false := HF.out (by rw [HD.out, hdg, decide_eq_false h90]; simp)
            have h3 : ¬ (s[k].toNat : Int) < 65 := by omega
            have h4 : 90 < (s[k].toNat : Int) := by omega
            clear hdg
            go_wp2_with fail
            go_ret
            exact ⟨rfl, rfl⟩
        · obtain rfl : B = false := HF.out (by rw [HD.out, hdg, decide_eq_false h65]; simp)
          have h3 : (s[k].toNat : Int) < 65 := by omega
          clear hdg
          go_wp2_with fail
          go_ret
          exact ⟨rfl, rfl⟩
    · obtain rfl : B = true := by rw [H.out, ← HA.out, List.take_of_length_le (by rw [len_data]; omega)]
      go_wp2_with fail
      go_ret
      exact ⟨rfl, rfl⟩
/-! ### Passages -/
/-- A passage: at, gate, plate, cents. -/
abbrev Pa := Int × ByteArray × ByteArray × Int
def paC (x : Pa) : Array Value := #[.int .i64 x.1, .string x.2.1, .string x.2.2.1, .int .i64 x.2.2.2]
theorem paC_sz (x : Pa) : (paC x).size = 4 := rfl
theorem pa_info (x : Pa) : (Tryd.prog.info? 90).map (·.size) = some (paC x).size := (by kernel_rfl : (Tryd.prog.info? 90).map (·.size) = some 4)
def PaOk (l : List Pa) : Prop := ∀ x ∈ l, Small x.2.1 ∧ Small x.2.2.1
def cmpP (x y : Pa) : Int := orI (cmpS x.1 y.1) (orI (cmpI x.2.1 y.2.1) (cmpI x.2.2.1 y.2.2.1))
set_option maxRecDepth 100000 in
set_option maxHeartbeats 2000000 in
theorem or3_c (x y z : Int) (g : Nat) (w : World) (hB : Bk w g 3 #[.int .i64 x, .int .i64 y, .int .i64 z]) :
    Calls Tryd.prog 107 #[.slice (some ⟨g, 0, none⟩) 3 3] w fun e w' => e = .returned (.int .i64 (orI x (orI y z))) ∧ w = w' := by
  have hc0 : w.cell? ⟨g, 0, none⟩ = some (.int .i64 x) := hB.cell 0
  have hc1 : w.cell? ⟨g, 1, none⟩ = some (.int .i64 y) := hB.cell 1
  have hc2 : w.cell? ⟨g, 2, none⟩ = some (.int .i64 z) := hB.cell 2
  clear hB
  obtain ⟨R, hR⟩ : ∃ R, orI x (orI y z) = R := ⟨_, rfl⟩
  have HR := Lib.hid hR
  rw [hR]
  clear hR
  by_cases hx : x = 0
  · subst hx
    by_cases hy : y = 0
    · subst hy
      by_cases hz : z = 0
      · subst hz
        obtain rfl : R = 0 := by rw [← HR.out]; rfl
        go_enter Tryd.func107, Tryd.ntmps107
        go_wp2_with fail
        refine wp_loop_rounds 4 ?_
        rw [rounds_succ]
        go_wp2_with fail
        rw [rounds_succ]
        go_wp2_with fail
        rw [rounds_succ]
        go_wp2_with fail
        rw [rounds_succ]
        go_wp2_with fail
        go_ret
        exact ⟨rfl, rfl⟩
      · obtain rfl : R = z := by rw [← HR.out]; rfl
        have hz' : (R != 0) = true := by rw [bne_iff_ne]; exact hz
        clear hz HR
        go_enter Tryd.func107, Tryd.ntmps107
        go_wp2_with fail
        refine wp_loop_rounds 4 ?_
        rw [rounds_succ]
        go_wp2_with fail
        rw [rounds_succ]
        go_wp2_with fail
        rw [rounds_succ]
        go_wp2_with fail
        go_ret
        exact ⟨rfl, rfl⟩
    · obtain rfl : R = y := by rw [← HR.out]; simp [orI, hy]
      have hy' : (R != 0) = true := by rw [bne_iff_ne]; exact hy
      clear hy HR
      go_enter Tryd.func107, Tryd.ntmps107
      go_wp2_with fail
      refine wp_loop_rounds 4 ?_
      rw [rounds_succ]
      go_wp2_with fail
      rw [rounds_succ]
      go_wp2_with fail
      go_ret
      exact ⟨rfl, rfl⟩
  · obtain rfl : R = x := by rw [← HR.out]; simp [orI, hx]
    have hx' : (R != 0) = true := by rw [bne_iff_ne]; exact hx
    clear hx HR
    go_enter Tryd.func107, Tryd.ntmps107
    go_wp2_with fail
    refine wp_loop_rounds 4 ?_
    rw [rounds_succ]
    go_wp2_with fail
    go_ret
    exact ⟨rfl, rfl⟩
set_option maxRecDepth 100000 in
set_option maxHeartbeats 4000000 in
theorem comparePassages_c (x y : Pa) (w : World) :
    Calls Tryd.prog 100 #[.agg (paC x), .agg (paC y)] w fun e w' => e = .returned (.int .i64 (cmpP x y)) ∧ G w w' none := by
  have hBx := (Bk.new w 90 (paC x)).alloc (.cells (paC y) 90)
  have hBy := Bk.newAt (w := w.alloc (.cells (paC x) 90)) (b := w.heap.size + 1) (by simp) 90 (paC y)
  have hG := ((G.refl w none).alloc (.cells (paC x) 90)).alloc (.cells (paC y) 90)
  have HF : Hid (orI (cmpS x.1 y.1) (orI (cmpI x.2.1 y.2.1) (cmpI x.2.2.1 y.2.2.1)) = cmpP x y) := Lib.hid rfl
  go_enter Tryd.func100, Tryd.ntmps100
  go_wp2_with fail
  generalize ((w.alloc (.cells (paC x) 90)).alloc (.cells (paC y) 90)) = w3 at hBx hBy hG ⊢
  have c0 : w3.cell? ⟨w.heap.size, 0, none⟩ = some (.int .i64 x.1) := hBx.cell 0
  have c1 : w3.cell? ⟨w.heap.size, 1, none⟩ = some (.string x.2.1) := hBx.cell 1
  have c2 : w3.cell? ⟨w.heap.size, 2, none⟩ = some (.string x.2.2.1) := hBx.cell 2
  have d0 : w3.cell? ⟨w.heap.size + 1, 0, none⟩ = some (.int .i64 y.1) := hBy.cell 0
  have d1 : w3.cell? ⟨w.heap.size + 1, 1, none⟩ = some (.string y.2.1) := hBy.cell 1
  have d2 : w3.cell? ⟨w.heap.size + 1, 2, none⟩ = some (.string y.2.2.1) := hBy.cell 2
  have hGd := hG.drew
  clear hBx hBy hG
  go_region_held3 (fun w' => w'.cell? ⟨w.heap.size, 0, none⟩ = some (.int .i64 x.1) ∧ w'.cell? ⟨w.heap.size, 1, none⟩ = some (.string x.2.1) ∧ w'.cell? ⟨w.heap.size, 2, none⟩ = some (.string x.2.2.1) ∧ w'.cell? ⟨w.heap.size + 1, 0, none⟩ = some (.int .i64 y.1) ∧ w'.cell? ⟨w.heap.size + 1, 1, none⟩ = some (.string y.2.1) ∧ w'.cell? ⟨w.heap.size + 1, 2, none⟩ = some (.string y.2.2.1)) (first | exact ⟨c0, c1, c2, d0, d1, d2⟩ | go_keep) (first | (go_at_call 108; refine (compare_c _ _ _).mono ?_; rintro e w' ⟨rfl, rfl⟩) | (go_at_call 44; refine (cmpInt_c _ _ _).mono ?_; rintro e w' ⟨rfl, rfl⟩) | (go_at_call 107; refine (or3_c _ _ _ _ _ ((Bk.new w3 _ _).quiet ((G.refl _ none).drew))).mono ?_; rintro e w' ⟨rfl, rfl⟩))
  go_wp2_with fail
  go_ret
  exact ⟨ret_int HF.out, hGd.alloc _⟩
def paAfter (b : Option Pa) (x : Pa) : Bool := match b with | none => false | some y => decide (0 ≤ cmpP y x)
def paErr : Option Pa → List Pa → Int
  | _, [] => 0
  | b, x :: r => if momB x.1 = false then 1 else if keyB x.2.1 = false then 5 else if plB x.2.2.1 = false then 3 else if inB x.2.2.2 0 1000000 = false then 1 else if paAfter b x = true then 7 else paErr (some x) r
def paE (l : List Pa) : Int := if 1000 < l.length then 2 else paErr none l
theorem paRow {W w : World} {bb bo n cap : Nat} {l : List Pa} (h : RdR W 4 paC (.slice (some ⟨bb, bo, none⟩) n cap) l) (hG : G W w none) {k : Nat} {p : Pa} (hp : l[k]? = some p) :
    ∀ j v, (paC p).toList[j]? = some v → w.cell? ((⟨bb, bo + k * 4, none⟩ : Addr).add j) = some v := fun j v hv => by
  rw [add_at]
  exact RdR.cell paC_sz h hG hp j v hv
def PaRel (w : World) (l : List Pa) (i : Value) (wr : World) : Prop :=
  ∃ k : Nat, k ≤ l.length ∧ i = .int .i64 k ∧ paErr none l = paErr (prevAt l k) (l.drop k) ∧ G w wr none
set_option maxRecDepth 100000 in
set_option maxHeartbeats 8000000 in
theorem paForm_c (v : Value) (l : List Pa) (w : World) (hr : RdR w 4 paC v l) (hl : PaOk l) (hn : l.length ≤ 1000000) :
    Calls Tryd.prog 85 #[v] w fun e w' => e = .returned (.int .i64 (paE l)) ∧ G w w' none := by
  have HR := Lib.hid hr
  obtain ⟨a, cap, rfl, hcap, hm⟩ := RdR.form hr
  clear hr
  obtain ⟨E, hE⟩ : ∃ E, paE l = E := ⟨_, rfl⟩
  have HEE := Lib.hid hE
  rw [hE]
  clear hE
  by_cases h30 : 1000 < l.length
  · obtain rfl : E = 2 := by rw [← HEE.out]; simp [paE, h30]
    go_enter Tryd.func85, Tryd.ntmps85
    go_wp2_with fail
    go_ret
    exact ⟨rfl, G.refl _ _⟩
  · have H := Lib.hid (show E = paErr none l by rw [← HEE.out]; simp [paE, h30])
    go_enter Tryd.func85, Tryd.ntmps85
    go_wp2_with fail
    go_loopw [10] (PaRel w l) (fun i _ => l.length - (intOf i).toNat)
    case atStart => exact ⟨0, by omega, rfl, rfl, G.refl _ _⟩
    case round =>
      obtain ⟨k, hkl, rfl, heq, hG⟩ := hrel
      have HE := Lib.hid heq
      clear heq
      by_cases hk : k < l.length
      · obtain ⟨⟨t, g, y, c⟩, hp⟩ : ∃ p, l[k]? = some p := ⟨_, List.getElem?_eq_getElem hk⟩
        have hdrop : l.drop k = (t, g, y, c) :: l.drop (k + 1) := by rw [List.drop_eq_getElem_cons hk, ← (List.getElem?_eq_some_iff.1 hp).2]
        have hs1 := hl _ (List.mem_of_getElem? hp)
        obtain ⟨hs1, hs2⟩ := hs1
        dsimp only at hs1 hs2
        unfold Small at hs1 hs2
        obtain ⟨bb, bo, rfl, hbb, _⟩ := RdR.elem paC_sz HR.out hG hp
        have HW := Lib.hid (paRow HR.out hG hp)
        have HP := Lib.hid hp
        have HS : Hid (paErr (prevAt l k) (l.drop k) = if momB t = false then 1 else if keyB g = false then 5 else if plB y = false then 3 else if inB c 0 1000000 = false then 1 else if paAfter (prevAt l k) (t, g, y, c) = true then 7 else paErr (some (t, g, y, c)) (l.drop (k + 1))) := Lib.hid (by rw [hdrop]; rfl)
        have hB5 : Bk (wr.alloc (.cells #[.int .i64 t, .string g, .string y, .int .i64 c] 90)) wr.heap.size 90 #[.int .i64 t, .string g, .string y, .int .i64 c] := Bk.new wr 90 _
        have hG5 : G w (wr.alloc (.cells #[.int .i64 t, .string g, .string y, .int .i64 c] 90)) none := hG.alloc (.cells (paC (t, g, y, c)) 90)
        clear hdrop hp hG
        go_upto_region 6 with (refine wpList_load_at rfl 90 _ rfl ⟨bb, bo + k * 4, none⟩ rfl #[.int .i64 t, .string g, .string y, .int .i64 c] _ HW.out Tryd.underlying90 rfl (pa_info (t, g, y, c)) ?_)
        clear HW
        generalize wr.alloc (.cells #[.int .i64 t, .string g, .string y, .int .i64 c] 90) = w5 at hB5 hG5 ⊢
        generalize wr.heap.size = g5 at hB5 ⊢
        have c0 : w5.cell? ⟨g5, 0, none⟩ = some (.int .i64 t) := hB5.cell 0
        have c1 : w5.cell? ⟨g5, 1, none⟩ = some (.string g) := hB5.cell 1
        have c2 : w5.cell? ⟨g5, 2, none⟩ = some (.string y) := hB5.cell 2
        have c3 : w5.cell? ⟨g5, 3, none⟩ = some (.int .i64 c) := hB5.cell 3
        go_wp2_with fail
        refine (isMoment_c t _).mono ?_; rintro e w' ⟨rfl, rfl⟩
        cases k0 : momB t with
        | false =>
          obtain rfl : E = 1 := by rw [H.out, HE.out, HS.out, if_pos k0]
          clear k0
          go_wp2_with fail
          go_ret
          exact ⟨rfl, hG5⟩
        | true =>
          have K0 := Lib.hid k0
          clear k0
          go_wp2_with fail
          refine (isKey_c _ _ hs1).mono ?_; rintro e w' ⟨rfl, rfl⟩
          cases k1 : keyB g with
          | false =>
            obtain rfl : E = 5 := by rw [H.out, HE.out, HS.out, if_neg (by simp [K0.out]), if_pos k1]
            clear k1
            go_wp2_with fail
            go_ret
            exact ⟨rfl, hG5⟩
          | true =>
            have K1 := Lib.hid k1
            clear k1
            go_wp2_with fail
            refine (isPlate_c _ _ hs2).mono ?_; rintro e w' ⟨rfl, rfl⟩
            cases k2 : plB y with
            | false =>
              obtain rfl : E = 3 := by rw [H.out, HE.out, HS.out, if_neg (by simp [K0.out]), if_neg (by simp [K1.out]), if_pos k2]
              clear k2
              go_wp2_with fail
              go_ret
              exact ⟨rfl, hG5⟩
            | true =>
              have K2 := Lib.hid k2
              clear k2
              go_wp2_with fail
              refine (isRate_c c _).mono ?_; rintro e w' ⟨rfl, rfl⟩
              cases k3 : inB c 0 1000000 with
              | false =>
                obtain rfl : E = 1 := by rw [H.out, HE.out, HS.out, if_neg (by simp [K0.out]), if_neg (by simp [K1.out]), if_neg (by simp [K2.out]), if_pos k3]
                clear k3
                go_wp2_with fail
                go_ret
                exact ⟨rfl, hG5⟩
              | true =>
                have K3 := Lib.hid k3
                clear k3
                have hg5 := hB5.lt
                cases k with
                | zero =>
                  have HF : Hid (paErr none l = paErr (prevAt l (0 + 1)) (l.drop (0 + 1))) := Lib.hid (by rw [HE.out, HS.out, if_neg (by simp [K0.out]), if_neg (by simp [K1.out]), if_neg (by simp [K2.out]), if_neg (by simp [K3.out]), if_neg (by simp [prevAt, paAfter]), prevAt_succ l 0 (t, g, y, c) HP.out])
                  go_wp2_with fail
                  go_quiet (fail)
                  have hGq := hG5.drewN nq
                  go_wp2_with fail
                  go_roundw
                  case rel => exact ⟨0 + 1, by omega, by go_num, HF.out, hGq⟩
                  case measure => simp [intOf]; omega
                | succ m =>
                  obtain ⟨⟨t2, g2, y2, c2q⟩, hq2⟩ : ∃ q, l[m]? = some q := ⟨_, List.getElem?_eq_getElem (by omega)⟩
                  have HA1 : Hid (paAfter (prevAt l (m + 1)) (t, g, y, c) = decide (0 ≤ cmpP (t2, g2, y2, c2q) (t, g, y, c))) := Lib.hid (by rw [prevAt_succ l m _ hq2]; rfl)
                  have hsub : IntKind.i64.wrap (((m + 1 : Nat) : Int) - 1) = (m : Int) := by rw [show ((m + 1 : Nat) : Int) - 1 = (m : Int) by omega]; rw [IntKind.wrap_i64]; omega
                  have d0 := RdR.cell paC_sz HR.out hG5 hq2 0 (.int .i64 t2) rfl
                  have d1 := RdR.cell paC_sz HR.out hG5 hq2 1 (.string g2) rfl
                  have d2 := RdR.cell paC_sz HR.out hG5 hq2 2 (.string y2) rfl
                  have d3 := RdR.cell paC_sz HR.out hG5 hq2 3 (.int .i64 c2q) rfl
                  have hsub2 : IntKind.i64.wrap (m : Int) = (m : Int) := by rw [IntKind.wrap_i64]; omega
                  have hsub3 : IntKind.i64.wrap ((m : Int) + 1 - 1) = (m : Int) := by rw [IntKind.wrap_i64]; omega
                  have hm0 : (0 : Int) ≤ (m : Int) := Int.natCast_nonneg m
                  have hml : (m : Int) < (l.length : Int) := by omega
                  have hcf : cmpP (t2, g2, y2, c2q) (t, g, y, c) < 0 ∨ 0 ≤ cmpP (t2, g2, y2, c2q) (t, g, y, c) := by omega
                  simp only [Nat.add_zero] at d0
                  clear hq2
                  rcases hcf with hcf | hcf
                  · have HF : Hid (paErr none l = paErr (prevAt l ((m + 1) + 1)) (l.drop ((m + 1) + 1))) := Lib.hid (by rw [HE.out, HS.out, if_neg (by simp [K0.out]), if_neg (by simp [K1.out]), if_neg (by simp [K2.out]), if_neg (by simp [K3.out]), if_neg (by rw [HA1.out, decide_eq_false (by omega)]; simp), prevAt_succ l (m + 1) _ HP.out])
                    go_wp2_with fail
                    go_region_held3 (fun w' => w'.cell? ⟨bb, bo + m * 4, none⟩ = some (.int .i64 t2) ∧ w'.cell? ⟨bb, bo + m * 4 + 1, none⟩ = some (.string g2) ∧ w'.cell? ⟨bb, bo + m * 4 + 2, none⟩ = some (.string y2) ∧ w'.cell? ⟨bb, bo + m * 4 + 3, none⟩ = some (.int .i64 c2q) ∧ w'.cell? ⟨g5, 0, none⟩ = some (.int .i64 t) ∧ w'.cell? ⟨g5, 1, none⟩ = some (.string g) ∧ w'.cell? ⟨g5, 2, none⟩ = some (.string y) ∧ w'.cell? ⟨g5, 3, none⟩ = some (.int .i64 c)) (first | exact ⟨d0, d1, d2, d3, c0, c1, c2, c3⟩ | exact hS6 | go_keep) (first | (go_at_call 100; refine (comparePassages_c (t2, g2, y2, c2q) (t, g, y, c) _).mono ?_; rintro e w6 ⟨rfl, hG6⟩; have hG06 := hG5.drew.trans hG6; have hbw := hG5.size; have hS6 : w6.cell? ⟨bb, bo + m * 4, none⟩ = some (.int .i64 t2) ∧ w6.cell? ⟨bb, bo + m * 4 + 1, none⟩ = some (.string g2) ∧ w6.cell? ⟨bb, bo + m * 4 + 2, none⟩ = some (.string y2) ∧ w6.cell? ⟨bb, bo + m * 4 + 3, none⟩ = some (.int .i64 c2q) ∧ w6.cell? ⟨g5, 0, none⟩ = some (.int .i64 t) ∧ w6.cell? ⟨g5, 1, none⟩ = some (.string g) ∧ w6.cell? ⟨g5, 2, none⟩ = some (.string y) ∧ w6.cell? ⟨g5, 3, none⟩ = some (.int .i64 c) := ⟨((gcell hG6).1 bb _ (Nat.lt_of_lt_of_le hbb hbw)).trans d0, ((gcell hG6).1 bb _ (Nat.lt_of_lt_of_le hbb hbw)).trans d1, ((gcell hG6).1 bb _ (Nat.lt_of_lt_of_le hbb hbw)).trans d2, ((gcell hG6).1 bb _ (Nat.lt_of_lt_of_le hbb hbw)).trans d3, ((gcell hG6).1 g5 _ hg5).trans c0, ((gcell hG6).1 g5 _ hg5).trans c1, ((gcell hG6).1 g5 _ hg5).trans c2, ((gcell hG6).1 g5 _ hg5).trans c3⟩))
                    go_wp2_with fail
                    go_roundw
                    case rel => exact ⟨(m + 1) + 1, by omega, by go_num, HF.out, hG06⟩
                    case measure => simp [intOf]; omega
                  · obtain rfl : E = 7 := by rw [H.out, HE.out, HS.out, if_neg (by simp [K0.out]), if_neg (by simp [K1.out]), if_neg (by simp [K2.out]), if_neg (by simp [K3.out]), if_pos (by rw [HA1.out]; exact decide_eq_true hcf)]
                    go_wp2_with fail
                    go_region_held3 (fun w' => w'.cell? ⟨bb, bo + m * 4, none⟩ = some (.int .i64 t2) ∧ w'.cell? ⟨bb, bo + m * 4 + 1, none⟩ = some (.string g2) ∧ w'.cell? ⟨bb, bo + m * 4 + 2, none⟩ = some (.string y2) ∧ w'.cell? ⟨bb, bo + m * 4 + 3, none⟩ = some (.int .i64 c2q) ∧ w'.cell? ⟨g5, 0, none⟩ = some (.int .i64 t) ∧ w'.cell? ⟨g5, 1, none⟩ = some (.string g) ∧ w'.cell? ⟨g5, 2, none⟩ = some (.string y) ∧ w'.cell? ⟨g5, 3, none⟩ = some (.int .i64 c)) (first | exact ⟨d0, d1, d2, d3, c0, c1, c2, c3⟩ | exact hS6 | go_keep) (first | (go_at_call 100; refine (comparePassages_c (t2, g2, y2, c2q) (t, g, y, c) _).mono ?_; rintro e w6 ⟨rfl, hG6⟩; have hG06 := hG5.drew.trans hG6; have hbw := hG5.size; have hS6 : w6.cell? ⟨bb, bo + m * 4, none⟩ = some (.int .i64 t2) ∧ w6.cell? ⟨bb, bo + m * 4 + 1, none⟩ = some (.string g2) ∧ w6.cell? ⟨bb, bo + m * 4 + 2, none⟩ = some (.string y2) ∧ w6.cell? ⟨bb, bo + m * 4 + 3, none⟩ = some (.int .i64 c2q) ∧ w6.cell? ⟨g5, 0, none⟩ = some (.int .i64 t) ∧ w6.cell? ⟨g5, 1, none⟩ = some (.string g) ∧ w6.cell? ⟨g5, 2, none⟩ = some (.string y) ∧ w6.cell? ⟨g5, 3, none⟩ = some (.int .i64 c) := ⟨((gcell hG6).1 bb _ (Nat.lt_of_lt_of_le hbb hbw)).trans d0, ((gcell hG6).1 bb _ (Nat.lt_of_lt_of_le hbb hbw)).trans d1, ((gcell hG6).1 bb _ (Nat.lt_of_lt_of_le hbb hbw)).trans d2, ((gcell hG6).1 bb _ (Nat.lt_of_lt_of_le hbb hbw)).trans d3, ((gcell hG6).1 g5 _ hg5).trans c0, ((gcell hG6).1 g5 _ hg5).trans c1, ((gcell hG6).1 g5 _ hg5).trans c2, ((gcell hG6).1 g5 _ hg5).trans c3⟩))
                    go_wp2_with fail
                    go_ret
                    exact ⟨rfl, hG06⟩
      · obtain rfl : k = l.length := by omega
        obtain rfl : E = 0 := by rw [H.out, HE.out, List.drop_length]; rfl
        go_wp2_with fail
        go_ret
        exact ⟨rfl, hG⟩
end Go.Proofs.YtamoefnpfkcigaaDoor
