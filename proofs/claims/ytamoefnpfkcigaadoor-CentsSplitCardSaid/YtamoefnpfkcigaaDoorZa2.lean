/- Soi, Spc, Shs, Tir, Pck, Can, Low, Bkd, Shq, Wai, Exo, Spd, Sht, Exm. -/
import Derived.Test.YtamoefnpfkcigaaDoorZa1
import Derived.StillTailTactics
import Derived.Laws.ResultCell
import Derived.Deep.RegionHeld3
import Derived.Laws.StructEq
/- slices.SortStableFunc at ints, fewer than 20: insertion. Written by gensoi.py. -/
namespace Go.Proofs.YtamoefnpfkcigaaDoor
open Go.RowKit

def inC (n : Int) : Array Value := #[.int .i64 n]
theorem inC_sz (n : Int) : (inC n).size = 1 := rfl
theorem in_rowL (l : List Int) : rowL inC l = l.map (Value.int .i64) := by
  induction l with
  | nil => rfl
  | cons s l ih => rw [rowL_cons, ih]; rfl
theorem in_rowOk : RowOk Tryd.prog 3 22 1 8 (.int .i64 0) inC := ⟨by kernel_rfl, Tryd.underlying22, fun r u hu => by simp [inC] at hu; subst hu; rfl, inC_sz, rfl, by omega, by omega⟩
abbrev OwnIn (w : World) (base : Nat) (v : Value) (l : List Int) : Prop := OwnX 3 1 inC w base v l
theorem OwnX.form0 {α : Type} {T : TypeId} {z : Nat} {c : α → Array Value} {w : World} {base : Nat} {v : Value} {l : List α} (h : OwnX T z c w base v l) (h0 : 0 < l.length) : ∃ g cap cur, v = .slice (some ⟨g, 0, none⟩) l.length cap ∧ Bk w g T cur := by
  rcases h.2 with ⟨rfl, h3⟩ | ⟨g, cap, cur, rfl, hb, hg, _⟩
  · omega
  · exact ⟨g, cap, cur, rfl, hg⟩
/-- One number moves down as far as it is less than the one before it. -/
def insJ {α : Type} (c : α → α → Bool) : Nat → List α → List α
  | 0, l => l
  | j + 1, l => match l[j + 1]?, l[j]? with
    | some x, some y => if c x y = true then insJ c j ((l.set (j + 1) y).set j x) else l
    | _, _ => l
/-- The numbers from a place on move down, one after the other. -/
def isF {α : Type} (c : α → α → Bool) : Nat → Nat → List α → List α
  | 0, _, l => l
  | n + 1, i, l => isF c n (i + 1) (insJ c i l)
def isrt {α : Type} (c : α → α → Bool) (l : List α) : List α := isF c (l.length - 1) 1 l
theorem insJ_len {α : Type} (c : α → α → Bool) : ∀ (j : Nat) (l : List α), (insJ c j l).length = l.length
  | 0, _ => rfl
  | j + 1, l => by
    unfold insJ
    split
    · split
      · rw [insJ_len c j]; simp
      · rfl
    · rfl
theorem isF_len {α : Type} (c : α → α → Bool) : ∀ (n i : Nat) (l : List α), (isF c n i l).length = l.length
  | 0, _, _ => rfl
  | n + 1, i, l => by rw [isF, isF_len c n, insJ_len]
theorem soi_set {w : World} {base g n cap : Nat} {l : List Int} (h : OwnIn w base (.slice (some ⟨g, 0, none⟩) n cap) l) (hl : l.length = n) {j : Nat} {x : Int} (hx : l[j]? = some x) (y : Int) : OwnIn (w.setCell ⟨g, j, none⟩ (.int .i64 y)) base (.slice (some ⟨g, 0, none⟩) n cap) (l.set j y) := by
  subst hl
  have h2 := OwnX.set (c := inC) inC_sz h hx 0 (.int .i64 y) (by omega) (q := y) rfl
  unfold OwnIn OwnX
  rw [List.length_set]
  simpa using h2
theorem soi_free {w : World} {base g n cap : Nat} {l : List Int} (h : OwnIn w base (.slice (some ⟨g, 0, none⟩) n cap) l) (hl : l.length = n) (j : Nat) : w.frozen? ⟨g, j, none⟩ = false := by
  subst hl
  exact ownsRow_free h j
/-- What may be written: the list's own block. -/
def S1 (v : Value) (k : Nat) : Prop := v.ownBlock = some k
def SoRel (w : World) (base : Nat) (v : Value) (c : Int → Int → Bool) (l0 : List Int) (s8 : Value) (wr : World) : Prop :=
  ∃ (i : Nat) (l : List Int), 1 ≤ i ∧ i ≤ max l0.length 1 ∧ s8 = .int .i64 i ∧ isrt c l0 = isF c (l0.length - i) i l ∧ l.length = l0.length ∧ (∀ z ∈ l, z ∈ l0) ∧ OwnIn wr base v l ∧ GS (S1 v) w wr
def SiRel (w : World) (base : Nat) (v : Value) (c : Int → Int → Bool) (l0 : List Int) (i : Nat) (li : List Int) (s9 : Value) (wr : World) : Prop :=
  ∃ (j : Nat) (l : List Int), j ≤ i ∧ s9 = .int .i64 j ∧ insJ c i li = insJ c j l ∧ l.length = l0.length ∧ (∀ z ∈ l, z ∈ l0) ∧ OwnIn wr base v l ∧ GS (S1 v) w wr
set_option maxRecDepth 100000 in
set_option maxHeartbeats 8000000 in
theorem insSort_c (F : FuncId) (caps : Array Value) (cf : Int → Int → Int) (v : Value) (l0 : List Int) (base : Nat) (w : World) (hcf : ∀ (args : Array Value) (w : World), (callFunc F args).run Tryd.prog w = .ok (.enter F args) w)
    (hal : ∀ (x y : Int) (w' : World), x ∈ l0 → y ∈ l0 → GS (S1 v) w w' → Calls Tryd.prog F (#[.int .i64 x, .int .i64 y] ++ caps) w' fun e w'' => e = .returned (.int .i64 (cf x y)) ∧ G w' w'' none)
    (hown : OwnIn w base v l0) (hn : l0.length ≤ 1000) :
    Calls Tryd.prog 79 #[v, .int .i64 0, .int .i64 l0.length, .func (.func F) #[] caps] w fun e w' => e = .returned (.tuple #[]) ∧ OwnIn w' base v (isrt (fun x y => decide (cf x y < 0)) l0) ∧ GS (S1 v) w w' := by
  have HAL := Lib.hid hal
  obtain ⟨a, cap, rfl, hcap, hm⟩ := RdR.form (c := inC) (Rd.of_owns hown)
  clear hal
  go_enter Tryd.func79, Tryd.ntmps79
  go_wp2_with fail
  go_loopw [8] (SoRel w base (.slice a l0.length cap) (fun x y => decide (cf x y < 0)) l0) (fun i _ => l0.length - (intOf i).toNat)
  case atStart => exact ⟨1, l0, by omega, by omega, rfl, rfl, rfl, fun z hz => hz, hown, GS.refl _ _⟩
  case round =>
    obtain ⟨i, l, hi1, hil, rfl, heq, hll, hsub, hownr, hGr⟩ := hrel
    have HSUB := Lib.hid hsub
    clear hsub
    have HE := Lib.hid heq
    clear heq hown
    by_cases hlt : i < l0.length
    · have HD : Hid (isrt (fun x y => decide (cf x y < 0)) l0 = isF (fun x y => decide (cf x y < 0)) (l0.length - (i + 1)) (i + 1) (insJ (fun x y => decide (cf x y < 0)) i l)) := Lib.hid (by
        rw [HE.out, show l0.length - i = (l0.length - (i + 1)) + 1 by omega, isF])
      have HI := Lib.hid hlt
      go_wp2_with fail
      go_loopw [9] (SiRel w base (.slice a l0.length cap) (fun x y => decide (cf x y < 0)) l0 i l) (fun j _ => (intOf j).toNat)
      case atStart => exact ⟨i, l, by omega, rfl, rfl, hll, HSUB.out, hownr, hGr⟩
      case round =>
        clear hownr hGr
        obtain ⟨j, l', hji, rfl, heq, hl', hsub2, hown2, hG2⟩ := hrel
        have HSUB2 := Lib.hid hsub2
        clear hsub2
        have HQ := Lib.hid heq
        clear heq
        match j, hji, HQ with
        | 0, hji, HQ =>
          have HF : Hid (insJ (fun x y => decide (cf x y < 0)) i l = l') := Lib.hid (by rw [HQ.out, insJ])
          have h0 : ¬ ((0 : Int) > 0) := by omega
          go_upto_region 4 with fail
          refine wp_region_held_drew (S := (fun _ : World => True)) (by kernel_rfl) ?_ (fun hHeld => ?_)
          · exact trivial
          refine wpAnyH_take (i := 0) (oi := { dst := some 18, op := Op.move (Operand.tmp 9), type := 3, pos := _, after := #[], guard := none }) (v := ?_) rfl (by kernel_rfl) (by kernel_rfl) (by kernel_rfl) (fun _ _ _ h => h) (Or.inl ⟨by rfl, ?_⟩) (by assumption) ?_
          rotate_left
          · (intro w hSw; clear hSw; (go_simp <;> with_reducible rfl))
          try simp only [Act.put, List.setIfInBounds_toArray, List.set_cons_zero, List.set_cons_succ]
          refine wpAnyH_take (i := 1) (oi := { dst := some 19, op := Op.move (Operand.tmp 1), type := 3, pos := _, after := #[], guard := none }) (v := ?_) rfl (by kernel_rfl) (by kernel_rfl) (by kernel_rfl) (fun _ _ _ h => h) (Or.inl ⟨by rfl, ?_⟩) (by assumption) ?_
          rotate_left
          · (intro w hSw; clear hSw; (go_simp <;> with_reducible rfl))
          try simp only [Act.put, List.setIfInBounds_toArray, List.set_cons_zero, List.set_cons_succ]
          refine wpAnyH_take (i := 2) (oi := { dst := some 20, op := Op.binOp BinOp.gtr 3 (Operand.tmp 18) (Operand.tmp 19) 3, type := 4, pos := _, after := #[{ on := 0, ground := Ground.data }, { on := 1, ground := Ground.data }], guard := none }) (v := ?_) rfl (by kernel_rfl) (by kernel_rfl) (by kernel_rfl) (fun _ _ _ h => h) (Or.inl ⟨by rfl, ?_⟩) (by assumption) ?_
          rotate_left
          · (intro w hSw; clear hSw; (go_simp <;> with_reducible rfl))
          try simp only [Act.put, List.setIfInBounds_toArray, List.set_cons_zero, List.set_cons_succ]
          refine wpAnyH_take (i := 3) (oi := { dst := some 21, op := Op.move (Operand.tmp 20), type := 4, pos := _, after := #[{ on := 2, ground := Ground.data }], guard := none }) (v := ?_) rfl (by kernel_rfl) (by kernel_rfl) (by kernel_rfl) (fun _ _ _ h => h) (Or.inl ⟨by rfl, ?_⟩) (by assumption) ?_
          rotate_left
          · (intro w hSw; clear hSw; (go_simp <;> with_reducible rfl))
          try simp only [Act.put, List.setIfInBounds_toArray, List.set_cons_zero, List.set_cons_succ]
          refine wpAnyH_take (i := 4) (oi := { dst := some 22, op := Op.move (Operand.tmp 3), type := 55, pos := _, after := #[{ on := 3, ground := Ground.guard }], guard := some (3, true) }) (v := undef) rfl (by kernel_rfl) (by kernel_rfl) (by kernel_rfl) (fun _ _ _ h => h) (Or.inr ⟨by rfl, rfl⟩) (by assumption) ?_
          try simp only [Act.put, List.setIfInBounds_toArray, List.set_cons_zero, List.set_cons_succ]
          refine wpAnyH_take (i := 5) (oi := { dst := some 23, op := Op.move (Operand.tmp 0), type := 22, pos := _, after := #[{ on := 3, ground := Ground.guard }], guard := some (3, true) }) (v := undef) rfl (by kernel_rfl) (by kernel_rfl) (by kernel_rfl) (fun _ _ _ h => h) (Or.inr ⟨by rfl, rfl⟩) (by assumption) ?_
          try simp only [Act.put, List.setIfInBounds_toArray, List.set_cons_zero, List.set_cons_succ]
          refine wpAnyH_take (i := 6) (oi := { dst := some 24, op := Op.move (Operand.tmp 9), type := 3, pos := _, after := #[{ on := 3, ground := Ground.guard }], guard := some (3, true) }) (v := undef) rfl (by kernel_rfl) (by kernel_rfl) (by kernel_rfl) (fun _ _ _ h => h) (Or.inr ⟨by rfl, rfl⟩) (by assumption) ?_
          try simp only [Act.put, List.setIfInBounds_toArray, List.set_cons_zero, List.set_cons_succ]
          refine wpAnyH_take (i := 7) (oi := { dst := some 25, op := Op.indexAddr 22 (Operand.tmp 23) (Operand.tmp 24), type := 0, pos := _, after := #[{ on := 5, ground := Ground.data }, { on := 6, ground := Ground.data }, { on := 3, ground := Ground.guard }], guard := some (3, true) }) (v := undef) rfl (by kernel_rfl) (by kernel_rfl) (by kernel_rfl) (fun _ _ _ h => h) (Or.inr ⟨by rfl, rfl⟩) (by assumption) ?_
          try simp only [Act.put, List.setIfInBounds_toArray, List.set_cons_zero, List.set_cons_succ]
          refine wpAnyH_take (i := 8) (oi := { dst := some 26, op := Op.load 3 (Operand.tmp 25), type := 3, pos := _, after := #[{ on := 7, ground := Ground.data }, { on := 3, ground := Ground.guard }], guard := some (3, true) }) (v := undef) rfl (by kernel_rfl) (by kernel_rfl) (by kernel_rfl) (fun _ _ _ h => h) (Or.inr ⟨by rfl, rfl⟩) (by assumption) ?_
          try simp only [Act.put, List.setIfInBounds_toArray, List.set_cons_zero, List.set_cons_succ]
          refine wpAnyH_take (i := 9) (oi := { dst := some 27, op := Op.move (Operand.tmp 0), type := 22, pos := _, after := #[{ on := 3, ground := Ground.guard }], guard := some (3, true) }) (v := undef) rfl (by kernel_rfl) (by kernel_rfl) (by kernel_rfl) (fun _ _ _ h => h) (Or.inr ⟨by rfl, rfl⟩) (by assumption) ?_
          try simp only [Act.put, List.setIfInBounds_toArray, List.set_cons_zero, List.set_cons_succ]
          refine wpAnyH_take (i := 10) (oi := { dst := some 28, op := Op.move (Operand.tmp 9), type := 3, pos := _, after := #[{ on := 3, ground := Ground.guard }], guard := some (3, true) }) (v := undef) rfl (by kernel_rfl) (by kernel_rfl) (by kernel_rfl) (fun _ _ _ h => h) (Or.inr ⟨by rfl, rfl⟩) (by assumption) ?_
          try simp only [Act.put, List.setIfInBounds_toArray, List.set_cons_zero, List.set_cons_succ]
          refine wpAnyH_take (i := 11) (oi := { dst := some 29, op := Op.binOp BinOp.sub 3 (Operand.tmp 28) (Operand.const (Value.int IntKind.i64 1)) 3, type := 3, pos := _, after := #[{ on := 10, ground := Ground.data }, { on := 3, ground := Ground.guard }], guard := some (3, true) }) (v := undef) rfl (by kernel_rfl) (by kernel_rfl) (by kernel_rfl) (fun _ _ _ h => h) (Or.inr ⟨by rfl, rfl⟩) (by assumption) ?_
          try simp only [Act.put, List.setIfInBounds_toArray, List.set_cons_zero, List.set_cons_succ]
          refine wpAnyH_take (i := 12) (oi := { dst := some 30, op := Op.indexAddr 22 (Operand.tmp 27) (Operand.tmp 29), type := 0, pos := _, after := #[{ on := 9, ground := Ground.data }, { on := 11, ground := Ground.data }, { on := 3, ground := Ground.guard }], guard := some (3, true) }) (v := undef) rfl (by kernel_rfl) (by kernel_rfl) (by kernel_rfl) (fun _ _ _ h => h) (Or.inr ⟨by rfl, rfl⟩) (by assumption) ?_
          try simp only [Act.put, List.setIfInBounds_toArray, List.set_cons_zero, List.set_cons_succ]
          refine wpAnyH_take (i := 13) (oi := { dst := some 31, op := Op.load 3 (Operand.tmp 30), type := 3, pos := _, after := #[{ on := 12, ground := Ground.data }, { on := 3, ground := Ground.guard }], guard := some (3, true) }) (v := undef) rfl (by kernel_rfl) (by kernel_rfl) (by kernel_rfl) (fun _ _ _ h => h) (Or.inr ⟨by rfl, rfl⟩) (by assumption) ?_
          try simp only [Act.put, List.setIfInBounds_toArray, List.set_cons_zero, List.set_cons_succ]
          refine wpAnyH_take (i := 14) (oi := { dst := some 32, op := Op.call { callee := Callee.value (Operand.tmp 22), args := #[Operand.tmp 26, Operand.tmp 31], argTypes := #[3, 3] }, type := 3, pos := _, after := #[{ on := 4, ground := Ground.data }, { on := 8, ground := Ground.data }, { on := 13, ground := Ground.data }, { on := 3, ground := Ground.chain }, { on := 3, ground := Ground.guard }], guard := some (3, true) }) (v := undef) rfl (by kernel_rfl) (by kernel_rfl) (by kernel_rfl) (fun _ _ _ h => h) (Or.inr ⟨by rfl, rfl⟩) (by assumption) ?_
          try simp only [Act.put, List.setIfInBounds_toArray, List.set_cons_zero, List.set_cons_succ]
          refine wpAnyH_take (i := 15) (oi := { dst := some 33, op := Op.binOp BinOp.lss 3 (Operand.tmp 32) (Operand.const (Value.int IntKind.i64 0)) 3, type := 4, pos := _, after := #[{ on := 14, ground := Ground.data }, { on := 3, ground := Ground.guard }], guard := some (3, true) }) (v := undef) rfl (by kernel_rfl) (by kernel_rfl) (by kernel_rfl) (fun _ _ _ h => h) (Or.inr ⟨by rfl, rfl⟩) (by assumption) ?_
          try simp only [Act.put, List.setIfInBounds_toArray, List.set_cons_zero, List.set_cons_succ]
          refine wpAnyH_take (i := 16) (oi := { dst := some 34, op := Op.pick (Operand.tmp 21) (Operand.tmp 33) (Operand.const (Value.bool false)), type := 4, pos := _, after := #[{ on := 3, ground := Ground.data }, { on := 15, ground := Ground.data }], guard := none }) (v := ?_) rfl (by kernel_rfl) (by kernel_rfl) (by kernel_rfl) (fun _ _ _ h => h) (Or.inl ⟨by rfl, ?_⟩) (by assumption) ?_
          rotate_left
          · (intro w hSw; clear hSw; (go_simp <;> with_reducible rfl))
          try simp only [Act.put, List.setIfInBounds_toArray, List.set_cons_zero, List.set_cons_succ]
          refine wpAnyH_done (by kernel_rfl) ?_ _
          generalize hwd : wr.drew = wd at hHeld ⊢
          have hown3 : OwnIn wd base (.slice a l0.length cap) l' := by rw [← hwd]; exact OwnX.drew hown2
          have hG3 : GS (S1 (.slice a l0.length cap)) w wd := by rw [← hwd]; exact hG2.trans (GS.of_G (G.refl wr none).drew)
          clear hwd hHeld
          go_wp2_with fail
          go_roundw
          case rel => exact ⟨i + 1, l', by omega, by omega, by go_num, by rw [HD.out, HF.out], hl', HSUB2.out, hown3, hG3⟩
          case measure => have := HI.out; simp [intOf]; omega
        | j + 1, hji, HQ =>
          obtain ⟨x, hx⟩ : ∃ x, l'[j + 1]? = some x := ⟨_, List.getElem?_eq_getElem (by omega)⟩
          obtain ⟨y, hy⟩ : ∃ y, l'[j]? = some y := ⟨_, List.getElem?_eq_getElem (by omega)⟩
          have HDJ : Hid (insJ (fun x y => decide (cf x y < 0)) i l = if cf x y < 0 then insJ (fun x y => decide (cf x y < 0)) j ((l'.set (j + 1) y).set j x) else l') := Lib.hid (by
            rw [HQ.out, insJ, hx, hy]; simp)
          obtain ⟨g, cap', cur, e, hB⟩ := OwnX.form0 hown2 (by omega)
          rw [hl'] at e
          cases e
          have hcx : ∀ w', G wr w' none → w'.cell? ⟨g, j + 1, none⟩ = some (.int .i64 x) := fun w' q => by
            have := RdR.cell inC_sz (Rd.of_owns hown2) q hx 0 (.int .i64 x) rfl
            simpa using this
          have hcy : ∀ w', G wr w' none → w'.cell? ⟨g, j, none⟩ = some (.int .i64 y) := fun w' q => by
            have := RdR.cell inC_sz (Rd.of_owns hown2) q hy 0 (.int .i64 y) rfl
            simpa using this
          have HG0 := Lib.hid hG2
          have h0 : ((j : Int) + 1) > 0 := by omega
          have h1 : IntKind.i64.wrap ((j : Int) + 1 - 1) = (j : Int) := by rw [IntKind.wrap_i64]; omega
          have h2 : IntKind.i64.wrap (j : Int) = (j : Int) := by rw [IntKind.wrap_i64]; omega
          have h3 : (j : Int) + 1 < (l0.length : Int) := by omega
          have h4 : (j : Int) < (l0.length : Int) := by omega
          have h5 : (0 : Int) ≤ (j : Int) + 1 := by omega
          have h6 : (0 : Int) ≤ (j : Int) := by omega
          go_upto_region 4 with fail
          have hS := (G.refl wr none).drew
          refine wp_region_held_drew (S := (fun w' : World => w'.cell? ⟨g, j + 1, none⟩ = some (.int .i64 x) ∧ w'.cell? ⟨g, j, none⟩ = some (.int .i64 y))) (by kernel_rfl) ?_ (fun hHeld => ?_)
          · exact ⟨hcx _ hS, hcy _ hS⟩
          refine wpAnyH_take (i := 0) (oi := { dst := some 18, op := Op.move (Operand.tmp 9), type := 3, pos := _, after := #[], guard := none }) (v := ?_) rfl (by kernel_rfl) (by kernel_rfl) (by kernel_rfl) (fun _ _ _ h => h) (Or.inl ⟨by rfl, ?_⟩) (by assumption) ?_
          rotate_left
          · (intro w hSw; obtain ⟨z0, z1⟩ := hSw; (go_simp <;> with_reducible rfl))
          try simp only [Act.put, List.setIfInBounds_toArray, List.set_cons_zero, List.set_cons_succ]
          refine wpAnyH_take (i := 1) (oi := { dst := some 19, op := Op.move (Operand.tmp 1), type := 3, pos := _, after := #[], guard := none }) (v := ?_) rfl (by kernel_rfl) (by kernel_rfl) (by kernel_rfl) (fun _ _ _ h => h) (Or.inl ⟨by rfl, ?_⟩) (by assumption) ?_
          rotate_left
          · (intro w hSw; obtain ⟨z0, z1⟩ := hSw; (go_simp <;> with_reducible rfl))
          try simp only [Act.put, List.setIfInBounds_toArray, List.set_cons_zero, List.set_cons_succ]
          refine wpAnyH_take (i := 2) (oi := { dst := some 20, op := Op.binOp BinOp.gtr 3 (Operand.tmp 18) (Operand.tmp 19) 3, type := 4, pos := _, after := #[{ on := 0, ground := Ground.data }, { on := 1, ground := Ground.data }], guard := none }) (v := ?_) rfl (by kernel_rfl) (by kernel_rfl) (by kernel_rfl) (fun _ _ _ h => h) (Or.inl ⟨by rfl, ?_⟩) (by assumption) ?_
          rotate_left
          · (intro w hSw; obtain ⟨z0, z1⟩ := hSw; (go_simp <;> with_reducible rfl))
          try simp only [Act.put, List.setIfInBounds_toArray, List.set_cons_zero, List.set_cons_succ]
          refine wpAnyH_take (i := 3) (oi := { dst := some 21, op := Op.move (Operand.tmp 20), type := 4, pos := _, after := #[{ on := 2, ground := Ground.data }], guard := none }) (v := ?_) rfl (by kernel_rfl) (by kernel_rfl) (by kernel_rfl) (fun _ _ _ h => h) (Or.inl ⟨by rfl, ?_⟩) (by assumption) ?_
          rotate_left
          · (intro w hSw; obtain ⟨z0, z1⟩ := hSw; (go_simp <;> with_reducible rfl))
          try simp only [Act.put, List.setIfInBounds_toArray, List.set_cons_zero, List.set_cons_succ]
          refine wpAnyH_take (i := 4) (oi := { dst := some 22, op := Op.move (Operand.tmp 3), type := 55, pos := _, after := #[{ on := 3, ground := Ground.guard }], guard := some (3, true) }) (v := ?_) rfl (by kernel_rfl) (by kernel_rfl) (by kernel_rfl) (fun _ _ _ h => h) (Or.inl ⟨by rfl, ?_⟩) (by assumption) ?_
          rotate_left
          · (intro w hSw; obtain ⟨z0, z1⟩ := hSw; (go_simp <;> with_reducible rfl))
          try simp only [Act.put, List.setIfInBounds_toArray, List.set_cons_zero, List.set_cons_succ]
          refine wpAnyH_take (i := 5) (oi := { dst := some 23, op := Op.move (Operand.tmp 0), type := 22, pos := _, after := #[{ on := 3, ground := Ground.guard }], guard := some (3, true) }) (v := ?_) rfl (by kernel_rfl) (by kernel_rfl) (by kernel_rfl) (fun _ _ _ h => h) (Or.inl ⟨by rfl, ?_⟩) (by assumption) ?_
          rotate_left
          · (intro w hSw; obtain ⟨z0, z1⟩ := hSw; (go_simp <;> with_reducible rfl))
          try simp only [Act.put, List.setIfInBounds_toArray, List.set_cons_zero, List.set_cons_succ]
          refine wpAnyH_take (i := 6) (oi := { dst := some 24, op := Op.move (Operand.tmp 9), type := 3, pos := _, after := #[{ on := 3, ground := Ground.guard }], guard := some (3, true) }) (v := ?_) rfl (by kernel_rfl) (by kernel_rfl) (by kernel_rfl) (fun _ _ _ h => h) (Or.inl ⟨by rfl, ?_⟩) (by assumption) ?_
          rotate_left
          · (intro w hSw; obtain ⟨z0, z1⟩ := hSw; (go_simp <;> with_reducible rfl))
          try simp only [Act.put, List.setIfInBounds_toArray, List.set_cons_zero, List.set_cons_succ]
          refine wpAnyH_take (i := 7) (oi := { dst := some 25, op := Op.indexAddr 22 (Operand.tmp 23) (Operand.tmp 24), type := 0, pos := _, after := #[{ on := 5, ground := Ground.data }, { on := 6, ground := Ground.data }, { on := 3, ground := Ground.guard }], guard := some (3, true) }) (v := ?_) rfl (by kernel_rfl) (by kernel_rfl) (by kernel_rfl) (fun _ _ _ h => h) (Or.inl ⟨by rfl, ?_⟩) (by assumption) ?_
          rotate_left
          · (intro w hSw; obtain ⟨z0, z1⟩ := hSw; (go_simp <;> with_reducible rfl))
          try simp only [Act.put, List.setIfInBounds_toArray, List.set_cons_zero, List.set_cons_succ]
          refine wpAnyH_take (i := 8) (oi := { dst := some 26, op := Op.load 3 (Operand.tmp 25), type := 3, pos := _, after := #[{ on := 7, ground := Ground.data }, { on := 3, ground := Ground.guard }], guard := some (3, true) }) (v := ?_) rfl (by kernel_rfl) (by kernel_rfl) (by kernel_rfl) (fun _ _ _ h => h) (Or.inl ⟨by rfl, ?_⟩) (by assumption) ?_
          rotate_left
          · (intro w hSw; obtain ⟨z0, z1⟩ := hSw; (go_simp <;> with_reducible rfl))
          try simp only [Act.put, List.setIfInBounds_toArray, List.set_cons_zero, List.set_cons_succ]
          refine wpAnyH_take (i := 9) (oi := { dst := some 27, op := Op.move (Operand.tmp 0), type := 22, pos := _, after := #[{ on := 3, ground := Ground.guard }], guard := some (3, true) }) (v := ?_) rfl (by kernel_rfl) (by kernel_rfl) (by kernel_rfl) (fun _ _ _ h => h) (Or.inl ⟨by rfl, ?_⟩) (by assumption) ?_
          rotate_left
          · (intro w hSw; obtain ⟨z0, z1⟩ := hSw; (go_simp <;> with_reducible rfl))
          try simp only [Act.put, List.setIfInBounds_toArray, List.set_cons_zero, List.set_cons_succ]
          refine wpAnyH_take (i := 10) (oi := { dst := some 28, op := Op.move (Operand.tmp 9), type := 3, pos := _, after := #[{ on := 3, ground := Ground.guard }], guard := some (3, true) }) (v := ?_) rfl (by kernel_rfl) (by kernel_rfl) (by kernel_rfl) (fun _ _ _ h => h) (Or.inl ⟨by rfl, ?_⟩) (by assumption) ?_
          rotate_left
          · (intro w hSw; obtain ⟨z0, z1⟩ := hSw; (go_simp <;> with_reducible rfl))
          try simp only [Act.put, List.setIfInBounds_toArray, List.set_cons_zero, List.set_cons_succ]
          refine wpAnyH_take (i := 11) (oi := { dst := some 29, op := Op.binOp BinOp.sub 3 (Operand.tmp 28) (Operand.const (Value.int IntKind.i64 1)) 3, type := 3, pos := _, after := #[{ on := 10, ground := Ground.data }, { on := 3, ground := Ground.guard }], guard := some (3, true) }) (v := ?_) rfl (by kernel_rfl) (by kernel_rfl) (by kernel_rfl) (fun _ _ _ h => h) (Or.inl ⟨by rfl, ?_⟩) (by assumption) ?_
          rotate_left
          · (intro w hSw; obtain ⟨z0, z1⟩ := hSw; (go_simp <;> with_reducible rfl))
          try simp only [Act.put, List.setIfInBounds_toArray, List.set_cons_zero, List.set_cons_succ]
          refine wpAnyH_take (i := 12) (oi := { dst := some 30, op := Op.indexAddr 22 (Operand.tmp 27) (Operand.tmp 29), type := 0, pos := _, after := #[{ on := 9, ground := Ground.data }, { on := 11, ground := Ground.data }, { on := 3, ground := Ground.guard }], guard := some (3, true) }) (v := ?_) rfl (by kernel_rfl) (by kernel_rfl) (by kernel_rfl) (fun _ _ _ h => h) (Or.inl ⟨by rfl, ?_⟩) (by assumption) ?_
          rotate_left
          · (intro w hSw; obtain ⟨z0, z1⟩ := hSw; (go_simp <;> with_reducible rfl))
          try simp only [Act.put, List.setIfInBounds_toArray, List.set_cons_zero, List.set_cons_succ]
          refine wpAnyH_take (i := 13) (oi := { dst := some 31, op := Op.load 3 (Operand.tmp 30), type := 3, pos := _, after := #[{ on := 12, ground := Ground.data }, { on := 3, ground := Ground.guard }], guard := some (3, true) }) (v := ?_) rfl (by kernel_rfl) (by kernel_rfl) (by kernel_rfl) (fun _ _ _ h => h) (Or.inl ⟨by rfl, ?_⟩) (by assumption) ?_
          rotate_left
          · (intro w hSw; obtain ⟨z0, z1⟩ := hSw; (go_simp <;> with_reducible rfl))
          try simp only [Act.put, List.setIfInBounds_toArray, List.set_cons_zero, List.set_cons_succ]
          refine wpAnyH_ready (rs := [14]) (by kernel_rfl) (by simp) ?_
          refine AllReadyH.cons (o := { dst := some 32, op := Op.call { callee := Callee.value (Operand.tmp 22), args := #[Operand.tmp 26, Operand.tmp 31], argTypes := #[3, 3] }, type := 3, pos := _, after := #[{ on := 4, ground := Ground.data }, { on := 8, ground := Ground.data }, { on := 13, ground := Ground.data }, { on := 3, ground := Ground.chain }, { on := 3, ground := Ground.guard }], guard := some (3, true) }) rfl (fun K hK => ?_) AllReadyH.nil
          go_simp
          refine (HAL.out x y _ (HSUB2.out _ (List.mem_of_getElem? hx)) (HSUB2.out _ (List.mem_of_getElem? hy)) (HG0.out.trans (GS.of_G hS))).mono ?_
          rintro e w4 ⟨rfl, hh⟩
          replace hS := hS.trans hh
          clear hh
          refine hK.out _ _ ?_ (fun hHeld => ?_)
          · exact ⟨hcx _ hS, hcy _ hS⟩
          clear hK K
          try simp only [Act.put, List.setIfInBounds_toArray, List.set_cons_zero, List.set_cons_succ]
          refine wpAnyH_take (i := 15) (oi := { dst := some 33, op := Op.binOp BinOp.lss 3 (Operand.tmp 32) (Operand.const (Value.int IntKind.i64 0)) 3, type := 4, pos := _, after := #[{ on := 14, ground := Ground.data }, { on := 3, ground := Ground.guard }], guard := some (3, true) }) (v := ?_) rfl (by kernel_rfl) (by kernel_rfl) (by kernel_rfl) (fun _ _ _ h => h) (Or.inl ⟨by rfl, ?_⟩) (by assumption) ?_
          rotate_left
          · (intro w hSw; obtain ⟨z0, z1⟩ := hSw; (go_simp <;> with_reducible rfl))
          try simp only [Act.put, List.setIfInBounds_toArray, List.set_cons_zero, List.set_cons_succ]
          refine wpAnyH_take (i := 16) (oi := { dst := some 34, op := Op.pick (Operand.tmp 21) (Operand.tmp 33) (Operand.const (Value.bool false)), type := 4, pos := _, after := #[{ on := 3, ground := Ground.data }, { on := 15, ground := Ground.data }], guard := none }) (v := ?_) rfl (by kernel_rfl) (by kernel_rfl) (by kernel_rfl) (fun _ _ _ h => h) (Or.inl ⟨by rfl, ?_⟩) (by assumption) ?_
          rotate_left
          · (intro w hSw; obtain ⟨z0, z1⟩ := hSw; (go_simp <;> with_reducible rfl))
          try simp only [Act.put, List.setIfInBounds_toArray, List.set_cons_zero, List.set_cons_succ]
          refine wpAnyH_done (by kernel_rfl) ?_ _
          clear hHeld
          have hown4 := OwnX.quiet hown2 hS
          have hG4 := hG2.trans (GS.of_G hS)
          by_cases hc : cf x y < 0
          · have HF : Hid (insJ (fun x y => decide (cf x y < 0)) i l = insJ (fun x y => decide (cf x y < 0)) j ((l'.set (j + 1) y).set j x)) := Lib.hid (by rw [HDJ.out, if_pos hc])
            have k1 := hcx _ hS
            have k2 := hcy _ hS
            go_upto_region 6 with fail
            have hown5 : OwnIn w4.drew base _ _ := OwnX.drew hown4
            have hG5 := hG4.trans (GS.of_G (G.refl w4 none).drew)
            clear k1 k2 hown4 hG4 hS
            obtain ⟨w5, hw5⟩ : ∃ w5, w4.drew = w5 := ⟨_, rfl⟩
            rw [hw5] at hown5 hG5
            have HSUB3 : Hid (∀ z ∈ (l'.set (j + 1) y).set j x, z ∈ l0) := Lib.hid (fun z hz => by
              rcases List.mem_or_eq_of_mem_set hz with hz | rfl
              · rcases List.mem_or_eq_of_mem_set hz with hz | rfl
                · exact HSUB2.out z hz
                · exact HSUB2.out _ (List.mem_of_getElem? hy)
              · exact HSUB2.out _ (List.mem_of_getElem? hx))
            have hA := soi_set hown5 hl' hx y
            have hy2 : (l'.set (j + 1) y)[j]? = some y := by rw [List.getElem?_set_ne (by omega)]; exact hy
            have hBB := soi_set hA (by rw [List.length_set]; exact hl') hy2 x
            have z0 : w5.cell? ⟨g, j, none⟩ = some (.int .i64 y) := by have := RdR.cell inC_sz (Rd.of_owns hown5) (G.refl _ none) hy 0 (.int .i64 y) rfl; simpa using this
            have z1 : w5.cell? ⟨g, j + 1, none⟩ = some (.int .i64 x) := by have := RdR.cell inC_sz (Rd.of_owns hown5) (G.refl _ none) hx 0 (.int .i64 x) rfl; simpa using this
            have z2 : (w5.setCell ⟨g, j + 1, none⟩ (.int .i64 y)).cell? ⟨g, j, none⟩ = some (.int .i64 y) := by have := RdR.cell inC_sz (Rd.of_owns hA) (G.refl _ none) hy2 0 (.int .i64 y) rfl; simpa using this
            have z3 : w5.frozen? ⟨g, j + 1, none⟩ = false := soi_free hown5 hl' _
            have z4 : (w5.setCell ⟨g, j + 1, none⟩ (.int .i64 y)).frozen? ⟨g, j, none⟩ = false := soi_free hA (by rw [List.length_set]; exact hl') _
            have hG6 := (hG5.trans (GS.of_Gs ((G.refl w5 (some g)).setCell (p := ⟨g, j + 1, none⟩) (.inr rfl) (.int .i64 y)) (show S1 _ g from rfl))).trans (GS.of_Gs ((G.refl _ (some g)).setCell (p := ⟨g, j, none⟩) (.inr rfl) (.int .i64 x)) (show S1 _ g from rfl))
            refine wp_region_held_drew (S := (fun _ : World => True)) (by kernel_rfl) ?_ (fun hHeld => ?_)
            · exact trivial
            rw [hw5]
            clear hw5
            refine wpAnyH_take (i := 0) (oi := { dst := some 37, op := Op.move (Operand.tmp 0), type := 22, pos := _, after := #[], guard := none }) (v := ?_) rfl (by kernel_rfl) (by kernel_rfl) (by kernel_rfl) (fun _ _ _ h => h) (Or.inl ⟨by rfl, ?_⟩) (by assumption) ?_
            rotate_left
            · (intro w hSw; clear hSw; (go_simp <;> with_reducible rfl))
            try simp only [Act.put, List.setIfInBounds_toArray, List.set_cons_zero, List.set_cons_succ]
            refine wpAnyH_take (i := 1) (oi := { dst := some 38, op := Op.move (Operand.tmp 9), type := 3, pos := _, after := #[], guard := none }) (v := ?_) rfl (by kernel_rfl) (by kernel_rfl) (by kernel_rfl) (fun _ _ _ h => h) (Or.inl ⟨by rfl, ?_⟩) (by assumption) ?_
            rotate_left
            · (intro w hSw; clear hSw; (go_simp <;> with_reducible rfl))
            try simp only [Act.put, List.setIfInBounds_toArray, List.set_cons_zero, List.set_cons_succ]
            refine wpAnyH_take (i := 2) (oi := { dst := some 39, op := Op.move (Operand.tmp 0), type := 22, pos := _, after := #[{ on := 15, ground := Ground.gcOnly Departure.lateStores }], guard := none }) (v := ?_) rfl (by kernel_rfl) (by kernel_rfl) (by kernel_rfl) (fun _ _ _ h => h) (Or.inl ⟨by rfl, ?_⟩) (by assumption) ?_
            rotate_left
            · (intro w hSw; clear hSw; (go_simp <;> with_reducible rfl))
            try simp only [Act.put, List.setIfInBounds_toArray, List.set_cons_zero, List.set_cons_succ]
            refine wpAnyH_take (i := 3) (oi := { dst := some 40, op := Op.move (Operand.tmp 9), type := 3, pos := _, after := #[{ on := 15, ground := Ground.gcOnly Departure.lateStores }], guard := none }) (v := ?_) rfl (by kernel_rfl) (by kernel_rfl) (by kernel_rfl) (fun _ _ _ h => h) (Or.inl ⟨by rfl, ?_⟩) (by assumption) ?_
            rotate_left
            · (intro w hSw; clear hSw; (go_simp <;> with_reducible rfl))
            try simp only [Act.put, List.setIfInBounds_toArray, List.set_cons_zero, List.set_cons_succ]
            refine wpAnyH_take (i := 4) (oi := { dst := some 41, op := Op.binOp BinOp.sub 3 (Operand.tmp 40) (Operand.const (Value.int IntKind.i64 1)) 3, type := 3, pos := _, after := #[{ on := 3, ground := Ground.data }, { on := 15, ground := Ground.gcOnly Departure.lateStores }], guard := none }) (v := ?_) rfl (by kernel_rfl) (by kernel_rfl) (by kernel_rfl) (fun _ _ _ h => h) (Or.inl ⟨by rfl, ?_⟩) (by assumption) ?_
            rotate_left
            · (intro w hSw; clear hSw; (go_simp <;> with_reducible rfl))
            try simp only [Act.put, List.setIfInBounds_toArray, List.set_cons_zero, List.set_cons_succ]
            refine wpAnyH_take (i := 5) (oi := { dst := some 42, op := Op.move (Operand.tmp 0), type := 22, pos := _, after := #[], guard := none }) (v := ?_) rfl (by kernel_rfl) (by kernel_rfl) (by kernel_rfl) (fun _ _ _ h => h) (Or.inl ⟨by rfl, ?_⟩) (by assumption) ?_
            rotate_left
            · (intro w hSw; clear hSw; (go_simp <;> with_reducible rfl))
            try simp only [Act.put, List.setIfInBounds_toArray, List.set_cons_zero, List.set_cons_succ]
            refine wpAnyH_take (i := 6) (oi := { dst := some 43, op := Op.move (Operand.tmp 9), type := 3, pos := _, after := #[], guard := none }) (v := ?_) rfl (by kernel_rfl) (by kernel_rfl) (by kernel_rfl) (fun _ _ _ h => h) (Or.inl ⟨by rfl, ?_⟩) (by assumption) ?_
            rotate_left
            · (intro w hSw; clear hSw; (go_simp <;> with_reducible rfl))
            try simp only [Act.put, List.setIfInBounds_toArray, List.set_cons_zero, List.set_cons_succ]
            refine wpAnyH_take (i := 7) (oi := { dst := some 44, op := Op.binOp BinOp.sub 3 (Operand.tmp 43) (Operand.const (Value.int IntKind.i64 1)) 3, type := 3, pos := _, after := #[{ on := 6, ground := Ground.data }], guard := none }) (v := ?_) rfl (by kernel_rfl) (by kernel_rfl) (by kernel_rfl) (fun _ _ _ h => h) (Or.inl ⟨by rfl, ?_⟩) (by assumption) ?_
            rotate_left
            · (intro w hSw; clear hSw; (go_simp <;> with_reducible rfl))
            try simp only [Act.put, List.setIfInBounds_toArray, List.set_cons_zero, List.set_cons_succ]
            refine wpAnyH_take (i := 8) (oi := { dst := some 45, op := Op.indexAddr 22 (Operand.tmp 42) (Operand.tmp 44), type := 0, pos := _, after := #[{ on := 5, ground := Ground.data }, { on := 7, ground := Ground.data }], guard := none }) (v := ?_) rfl (by kernel_rfl) (by kernel_rfl) (by kernel_rfl) (fun _ _ _ h => h) (Or.inl ⟨by rfl, ?_⟩) (by assumption) ?_
            rotate_left
            · (intro w hSw; clear hSw; (go_simp <;> with_reducible rfl))
            try simp only [Act.put, List.setIfInBounds_toArray, List.set_cons_zero, List.set_cons_succ]
            refine wpAnyH_take (i := 10) (oi := { dst := some 47, op := Op.move (Operand.tmp 0), type := 22, pos := _, after := #[], guard := none }) (v := ?_) rfl (by kernel_rfl) (by kernel_rfl) (by kernel_rfl) (fun _ _ _ h => h) (Or.inl ⟨by rfl, ?_⟩) (by assumption) ?_
            rotate_left
            · (intro w hSw; clear hSw; (go_simp <;> with_reducible rfl))
            try simp only [Act.put, List.setIfInBounds_toArray, List.set_cons_zero, List.set_cons_succ]
            refine wpAnyH_take (i := 11) (oi := { dst := some 48, op := Op.move (Operand.tmp 9), type := 3, pos := _, after := #[], guard := none }) (v := ?_) rfl (by kernel_rfl) (by kernel_rfl) (by kernel_rfl) (fun _ _ _ h => h) (Or.inl ⟨by rfl, ?_⟩) (by assumption) ?_
            rotate_left
            · (intro w hSw; clear hSw; (go_simp <;> with_reducible rfl))
            try simp only [Act.put, List.setIfInBounds_toArray, List.set_cons_zero, List.set_cons_succ]
            refine wpAnyH_take (i := 12) (oi := { dst := some 49, op := Op.indexAddr 22 (Operand.tmp 47) (Operand.tmp 48), type := 0, pos := _, after := #[{ on := 10, ground := Ground.data }, { on := 11, ground := Ground.data }], guard := none }) (v := ?_) rfl (by kernel_rfl) (by kernel_rfl) (by kernel_rfl) (fun _ _ _ h => h) (Or.inl ⟨by rfl, ?_⟩) (by assumption) ?_
            rotate_left
            · (intro w hSw; clear hSw; (go_simp <;> with_reducible rfl))
            try simp only [Act.put, List.setIfInBounds_toArray, List.set_cons_zero, List.set_cons_succ]
            refine wpAnyH_ready (rs := [9, 13]) (by kernel_rfl) (by simp) ?_
            refine (AllReadyH.cons (o := { dst := some 46, op := Op.load 3 (Operand.tmp 45), type := 3, pos := _, after := #[{ on := 8, ground := Ground.data }], guard := none }) rfl (fun K hK => ?_) (AllReadyH.cons (o := { dst := some 50, op := Op.load 3 (Operand.tmp 49), type := 3, pos := _, after := #[{ on := 12, ground := Ground.data }], guard := none }) rfl (fun K hK => ?_) AllReadyH.nil))
            · go_simp
              refine hK.out _ _ ?_ (fun hHeld => ?_)
              · exact trivial
              clear hK K
              try simp only [Act.put, List.setIfInBounds_toArray, List.set_cons_zero, List.set_cons_succ]
              refine wpAnyH_ready (rs := [13]) (by kernel_rfl) (by simp) ?_
              refine (AllReadyH.cons (o := { dst := some 50, op := Op.load 3 (Operand.tmp 49), type := 3, pos := _, after := #[{ on := 12, ground := Ground.data }], guard := none }) rfl (fun K hK => ?_) AllReadyH.nil)
              go_simp
              refine hK.out _ _ ?_ (fun hHeld => ?_)
              · exact trivial
              clear hK K
              try simp only [Act.put, List.setIfInBounds_toArray, List.set_cons_zero, List.set_cons_succ]
              refine wpAnyH_take (i := 14) (oi := { dst := some 51, op := Op.indexAddr 22 (Operand.tmp 37) (Operand.tmp 38), type := 0, pos := _, after := #[{ on := 0, ground := Ground.data }, { on := 1, ground := Ground.data }, { on := 0, ground := Ground.phase }, { on := 1, ground := Ground.phase }, { on := 2, ground := Ground.textOnly Departure.lateStores }, { on := 3, ground := Ground.textOnly Departure.lateStores }, { on := 4, ground := Ground.textOnly Departure.lateStores }, { on := 5, ground := Ground.phase }, { on := 6, ground := Ground.phase }, { on := 7, ground := Ground.phase }, { on := 8, ground := Ground.phase }, { on := 9, ground := Ground.phase }, { on := 10, ground := Ground.textOnly Departure.lateStores }, { on := 11, ground := Ground.textOnly Departure.lateStores }, { on := 12, ground := Ground.textOnly Departure.lateStoresUnsure }, { on := 13, ground := Ground.phase }], guard := none }) (v := ?_) rfl (by kernel_rfl) (by kernel_rfl) (by kernel_rfl) (fun _ _ _ h => h) (Or.inl ⟨by rfl, ?_⟩) (by assumption) ?_
              rotate_left
              · (intro w hSw; clear hSw; (go_simp <;> with_reducible rfl))
              try simp only [Act.put, List.setIfInBounds_toArray, List.set_cons_zero, List.set_cons_succ]
              refine wpAnyH_ready (rs := [15]) (by kernel_rfl) (by simp) ?_
              refine (AllReadyH.cons (o := { dst := none, op := Op.store 3 (Operand.tmp 51) (Operand.tmp 46), type := 0, pos := _, after := #[{ on := 14, ground := Ground.data }, { on := 9, ground := Ground.data }, { on := 0, ground := Ground.phase }, { on := 1, ground := Ground.phase }, { on := 2, ground := Ground.textOnly Departure.lateStores }, { on := 3, ground := Ground.textOnly Departure.lateStores }, { on := 4, ground := Ground.textOnly Departure.lateStores }, { on := 5, ground := Ground.phase }, { on := 6, ground := Ground.phase }, { on := 7, ground := Ground.phase }, { on := 8, ground := Ground.phase }, { on := 9, ground := Ground.phase }, { on := 10, ground := Ground.textOnly Departure.lateStores }, { on := 11, ground := Ground.textOnly Departure.lateStores }, { on := 12, ground := Ground.textOnly Departure.lateStoresUnsure }, { on := 13, ground := Ground.phase }], guard := none }) rfl (fun K hK => ?_) AllReadyH.nil)
              go_simp
              refine hK.out _ _ ?_ (fun hHeld => ?_)
              · exact trivial
              clear hK K
              try simp only [Act.put, List.setIfInBounds_toArray, List.set_cons_zero, List.set_cons_succ]
              refine wpAnyH_take (i := 16) (oi := { dst := some 52, op := Op.indexAddr 22 (Operand.tmp 39) (Operand.tmp 41), type := 0, pos := _, after := #[{ on := 2, ground := Ground.data }, { on := 4, ground := Ground.data }, { on := 0, ground := Ground.phase }, { on := 1, ground := Ground.phase }, { on := 2, ground := Ground.phase }, { on := 3, ground := Ground.phase }, { on := 4, ground := Ground.phase }, { on := 5, ground := Ground.phase }, { on := 6, ground := Ground.phase }, { on := 7, ground := Ground.phase }, { on := 8, ground := Ground.phase }, { on := 9, ground := Ground.phase }, { on := 10, ground := Ground.phase }, { on := 11, ground := Ground.phase }, { on := 12, ground := Ground.phase }, { on := 13, ground := Ground.phase }, { on := 14, ground := Ground.phase }, { on := 15, ground := Ground.phase }], guard := none }) (v := ?_) rfl (by kernel_rfl) (by kernel_rfl) (by kernel_rfl) (fun _ _ _ h => h) (Or.inl ⟨by rfl, ?_⟩) (by assumption) ?_
              rotate_left
              · (intro w hSw; clear hSw; (go_simp <;> with_reducible rfl))
              try simp only [Act.put, List.setIfInBounds_toArray, List.set_cons_zero, List.set_cons_succ]
              refine wpAnyH_ready (rs := [17]) (by kernel_rfl) (by simp) ?_
              refine (AllReadyH.cons (o := { dst := none, op := Op.store 3 (Operand.tmp 52) (Operand.tmp 50), type := 0, pos := _, after := #[{ on := 16, ground := Ground.data }, { on := 13, ground := Ground.data }, { on := 15, ground := Ground.chain }, { on := 0, ground := Ground.phase }, { on := 1, ground := Ground.phase }, { on := 2, ground := Ground.phase }, { on := 3, ground := Ground.phase }, { on := 4, ground := Ground.phase }, { on := 5, ground := Ground.phase }, { on := 6, ground := Ground.phase }, { on := 7, ground := Ground.phase }, { on := 8, ground := Ground.phase }, { on := 9, ground := Ground.phase }, { on := 10, ground := Ground.phase }, { on := 11, ground := Ground.phase }, { on := 12, ground := Ground.phase }, { on := 13, ground := Ground.phase }, { on := 14, ground := Ground.phase }, { on := 15, ground := Ground.phase }], guard := none }) rfl (fun K hK => ?_) AllReadyH.nil)
              go_simp
              refine hK.out _ _ ?_ (fun hHeld => ?_)
              · exact trivial
              clear hK K
              try simp only [Act.put, List.setIfInBounds_toArray, List.set_cons_zero, List.set_cons_succ]
              refine wpAnyH_done (by kernel_rfl) ?_ _
              clear hHeld
              go_wp2_with fail
              go_roundw
              case rel => exact ⟨j, (l'.set (j + 1) y).set j x, by omega, by go_num, HF.out, by simp [hl'], HSUB3.out, hBB, hG6⟩
              case measure => simp [intOf]
            · go_simp
              refine hK.out _ _ ?_ (fun hHeld => ?_)
              · exact trivial
              clear hK K
              try simp only [Act.put, List.setIfInBounds_toArray, List.set_cons_zero, List.set_cons_succ]
              refine wpAnyH_ready (rs := [9]) (by kernel_rfl) (by simp) ?_
              refine (AllReadyH.cons (o := { dst := some 46, op := Op.load 3 (Operand.tmp 45), type := 3, pos := _, after := #[{ on := 8, ground := Ground.data }], guard := none }) rfl (fun K hK => ?_) AllReadyH.nil)
              go_simp
              refine hK.out _ _ ?_ (fun hHeld => ?_)
              · exact trivial
              clear hK K
              try simp only [Act.put, List.setIfInBounds_toArray, List.set_cons_zero, List.set_cons_succ]
              refine wpAnyH_take (i := 14) (oi := { dst := some 51, op := Op.indexAddr 22 (Operand.tmp 37) (Operand.tmp 38), type := 0, pos := _, after := #[{ on := 0, ground := Ground.data }, { on := 1, ground := Ground.data }, { on := 0, ground := Ground.phase }, { on := 1, ground := Ground.phase }, { on := 2, ground := Ground.textOnly Departure.lateStores }, { on := 3, ground := Ground.textOnly Departure.lateStores }, { on := 4, ground := Ground.textOnly Departure.lateStores }, { on := 5, ground := Ground.phase }, { on := 6, ground := Ground.phase }, { on := 7, ground := Ground.phase }, { on := 8, ground := Ground.phase }, { on := 9, ground := Ground.phase }, { on := 10, ground := Ground.textOnly Departure.lateStores }, { on := 11, ground := Ground.textOnly Departure.lateStores }, { on := 12, ground := Ground.textOnly Departure.lateStoresUnsure }, { on := 13, ground := Ground.phase }], guard := none }) (v := ?_) rfl (by kernel_rfl) (by kernel_rfl) (by kernel_rfl) (fun _ _ _ h => h) (Or.inl ⟨by rfl, ?_⟩) (by assumption) ?_
              rotate_left
              · (intro w hSw; clear hSw; (go_simp <;> with_reducible rfl))
              try simp only [Act.put, List.setIfInBounds_toArray, List.set_cons_zero, List.set_cons_succ]
              refine wpAnyH_ready (rs := [15]) (by kernel_rfl) (by simp) ?_
              refine (AllReadyH.cons (o := { dst := none, op := Op.store 3 (Operand.tmp 51) (Operand.tmp 46), type := 0, pos := _, after := #[{ on := 14, ground := Ground.data }, { on := 9, ground := Ground.data }, { on := 0, ground := Ground.phase }, { on := 1, ground := Ground.phase }, { on := 2, ground := Ground.textOnly Departure.lateStores }, { on := 3, ground := Ground.textOnly Departure.lateStores }, { on := 4, ground := Ground.textOnly Departure.lateStores }, { on := 5, ground := Ground.phase }, { on := 6, ground := Ground.phase }, { on := 7, ground := Ground.phase }, { on := 8, ground := Ground.phase }, { on := 9, ground := Ground.phase }, { on := 10, ground := Ground.textOnly Departure.lateStores }, { on := 11, ground := Ground.textOnly Departure.lateStores }, { on := 12, ground := Ground.textOnly Departure.lateStoresUnsure }, { on := 13, ground := Ground.phase }], guard := none }) rfl (fun K hK => ?_) AllReadyH.nil)
              go_simp
              refine hK.out _ _ ?_ (fun hHeld => ?_)
              · exact trivial
              clear hK K
              try simp only [Act.put, List.setIfInBounds_toArray, List.set_cons_zero, List.set_cons_succ]
              refine wpAnyH_take (i := 16) (oi := { dst := some 52, op := Op.indexAddr 22 (Operand.tmp 39) (Operand.tmp 41), type := 0, pos := _, after := #[{ on := 2, ground := Ground.data }, { on := 4, ground := Ground.data }, { on := 0, ground := Ground.phase }, { on := 1, ground := Ground.phase }, { on := 2, ground := Ground.phase }, { on := 3, ground := Ground.phase }, { on := 4, ground := Ground.phase }, { on := 5, ground := Ground.phase }, { on := 6, ground := Ground.phase }, { on := 7, ground := Ground.phase }, { on := 8, ground := Ground.phase }, { on := 9, ground := Ground.phase }, { on := 10, ground := Ground.phase }, { on := 11, ground := Ground.phase }, { on := 12, ground := Ground.phase }, { on := 13, ground := Ground.phase }, { on := 14, ground := Ground.phase }, { on := 15, ground := Ground.phase }], guard := none }) (v := ?_) rfl (by kernel_rfl) (by kernel_rfl) (by kernel_rfl) (fun _ _ _ h => h) (Or.inl ⟨by rfl, ?_⟩) (by assumption) ?_
              rotate_left
              · (intro w hSw; clear hSw; (go_simp <;> with_reducible rfl))
              try simp only [Act.put, List.setIfInBounds_toArray, List.set_cons_zero, List.set_cons_succ]
              refine wpAnyH_ready (rs := [17]) (by kernel_rfl) (by simp) ?_
              refine (AllReadyH.cons (o := { dst := none, op := Op.store 3 (Operand.tmp 52) (Operand.tmp 50), type := 0, pos := _, after := #[{ on := 16, ground := Ground.data }, { on := 13, ground := Ground.data }, { on := 15, ground := Ground.chain }, { on := 0, ground := Ground.phase }, { on := 1, ground := Ground.phase }, { on := 2, ground := Ground.phase }, { on := 3, ground := Ground.phase }, { on := 4, ground := Ground.phase }, { on := 5, ground := Ground.phase }, { on := 6, ground := Ground.phase }, { on := 7, ground := Ground.phase }, { on := 8, ground := Ground.phase }, { on := 9, ground := Ground.phase }, { on := 10, ground := Ground.phase }, { on := 11, ground := Ground.phase }, { on := 12, ground := Ground.phase }, { on := 13, ground := Ground.phase }, { on := 14, ground := Ground.phase }, { on := 15, ground := Ground.phase }], guard := none }) rfl (fun K hK => ?_) AllReadyH.nil)
              go_simp
              refine hK.out _ _ ?_ (fun hHeld => ?_)
              · exact trivial
              clear hK K
              try simp only [Act.put, List.setIfInBounds_toArray, List.set_cons_zero, List.set_cons_succ]
              refine wpAnyH_done (by kernel_rfl) ?_ _
              clear hHeld
              go_wp2_with fail
              go_roundw
              case rel => exact ⟨j, (l'.set (j + 1) y).set j x, by omega, by go_num, HF.out, by simp [hl'], HSUB3.out, hBB, hG6⟩
              case measure => simp [intOf]
          · have HF : Hid (insJ (fun x y => decide (cf x y < 0)) i l = l') := Lib.hid (by rw [HDJ.out, if_neg hc])
            go_wp2_with fail
            go_roundw
            case rel => exact ⟨i + 1, l', by omega, by omega, by go_num, by rw [HD.out, HF.out], hl', HSUB2.out, hown4, hG4⟩
            case measure => have := HI.out; simp [intOf]; omega
    · have hfin : isrt (fun x y => decide (cf x y < 0)) l0 = l := by rw [HE.out, show l0.length - i = 0 by omega, isF]
      go_wp2_with fail
      refine bodyPost_end (results_none rfl _ _ _) rfl ?_
      exact ⟨rfl, by rw [hfin]; exact hownr, hGr⟩
set_option maxRecDepth 100000 in
set_option maxHeartbeats 4000000 in
theorem stable_c (F : FuncId) (caps : Array Value) (cf : Int → Int → Int) (v : Value) (l0 : List Int) (base : Nat) (w : World) (hcf : ∀ (args : Array Value) (w : World), (callFunc F args).run Tryd.prog w = .ok (.enter F args) w)
    (hal : ∀ (x y : Int) (w' : World), x ∈ l0 → y ∈ l0 → GS (S1 v) w w' → Calls Tryd.prog F (#[.int .i64 x, .int .i64 y] ++ caps) w' fun e w'' => e = .returned (.int .i64 (cf x y)) ∧ G w' w'' none)
    (hown : OwnIn w base v l0) (hn : l0.length < 20) :
    Calls Tryd.prog 68 #[v, .int .i64 l0.length, .func (.func F) #[] caps] w fun e w' => e = .returned (.tuple #[]) ∧ OwnIn w' base v (isrt (fun x y => decide (cf x y < 0)) l0) ∧ GS (S1 v) w w' := by
  have CI := Lib.hid (insSort_c F caps cf v l0 base w hcf hal hown (by omega))
  have h1 : ¬ (20 : Int) ≤ (l0.length : Int) := by omega
  have h2 : ¬ (20 : Int) < (l0.length : Int) := by omega
  obtain ⟨a, cap, rfl, hcap, hm⟩ := RdR.form (c := inC) (Rd.of_owns hown)
  clear hal hown hcf
  go_enter Tryd.func68, Tryd.ntmps68
  go_wp2_with fail
  go_loopw [7, 8] (fun s7 s8 wr => s7 = .int .i64 0 ∧ s8 = .int .i64 20 ∧ wr = w) (fun _ _ _ => 0)
  case atStart => exact ⟨rfl, rfl, rfl⟩
  case round =>
    obtain ⟨rfl, rfl, rfl⟩ := hrel
    go_wp2_with fail
    refine CI.out.mono ?_; rintro e w2 ⟨rfl, hown2, hG2⟩
    go_wp2_with fail
    go_loopw [6, 7, 8, 9] (fun s6 _ _ _ wr => s6 = .int .i64 20 ∧ wr = w2) (fun _ _ _ _ _ => 0)
    case atStart => exact ⟨rfl, rfl⟩
    case round =>
      obtain ⟨rfl, rfl⟩ := hrel
      go_wp2_with fail
      refine bodyPost_end (results_none rfl _ _ _) rfl ?_
      exact ⟨rfl, hown2, hG2⟩
set_option maxRecDepth 100000 in
set_option maxHeartbeats 4000000 in
theorem sortStable_c (F : FuncId) (caps : Array Value) (cf : Int → Int → Int) (v : Value) (l0 : List Int) (base : Nat) (w : World) (hcf : ∀ (args : Array Value) (w : World), (callFunc F args).run Tryd.prog w = .ok (.enter F args) w)
    (hal : ∀ (x y : Int) (w' : World), x ∈ l0 → y ∈ l0 → GS (S1 v) w w' → Calls Tryd.prog F (#[.int .i64 x, .int .i64 y] ++ caps) w' fun e w'' => e = .returned (.int .i64 (cf x y)) ∧ G w' w'' none)
    (hown : OwnIn w base v l0) (hn : l0.length < 20) :
    Calls Tryd.prog 42 #[v, .func (.func F) #[] caps] w fun e w' => e = .returned (.tuple #[]) ∧ OwnIn w' base v (isrt (fun x y => decide (cf x y < 0)) l0) ∧ GS (S1 v) w w' := by
  have CI := Lib.hid (stable_c F caps cf v l0 base w hcf hal hown hn)
  obtain ⟨a, cap, rfl, hcap, hm⟩ := RdR.form (c := inC) (Rd.of_owns hown)
  clear hal hown hcf
  go_enter Tryd.func42, Tryd.ntmps42
  go_wp2_with fail
  refine CI.out.mono ?_; rintro e w2 ⟨rfl, hown2, hG2⟩
  go_wp2_with fail
  refine bodyPost_end (results_none rfl _ _ _) rfl ?_
  exact ⟨rfl, hown2, hG2⟩
end Go.Proofs.YtamoefnpfkcigaaDoor

/- Cents that are divided: mark.checkSplit, rentref2.SplitFault, cmp.Compare of ints. -/
namespace Go.Proofs.YtamoefnpfkcigaaDoor
open Go.RowKit

def spA (ws : List Int) : Bool := ws.all fun n => inB n 0 5761440
def spE (c : Int) (ws : List Int) : Int := if inB c 0 1000000000 = false then 1 else if 50 < ws.length then 2 else if spA ws = false then 1 else if ws.sum = 0 then 8 else 0
def spS (c : Int) (ws : List Int) : Int := if spE c ws = 0 then ws.sum else 0
abbrev RdI (w : World) (v : Value) (l : List Int) : Prop := RdR w 1 inC v l
theorem sum_take_succ (l : List Int) (k : Nat) (p : Int) (hp : l[k]? = some p) : (l.take (k + 1)).sum = (l.take k).sum + p := by
  rw [List.take_add_one, hp, List.sum_append]; simp
theorem spA_bnd {l : List Int} (h : ∀ n ∈ l, inB n 0 5761440 = true) : 0 ≤ l.sum ∧ l.sum ≤ 5761440 * (l.length : Int) := by
  induction l with
  | nil => simp
  | cons a r ih =>
    have h1 := h a List.mem_cons_self
    have h2 := ih (fun n hn => h n (List.mem_cons_of_mem _ hn))
    unfold inB at h1
    simp at h1
    simp only [List.sum_cons, List.length_cons]
    push_cast
    omega
theorem spA_false {l : List Int} {k : Nat} {p : Int} (hp : l[k]? = some p) (h : inB p 0 5761440 = false) : spA l = false := by
  unfold spA
  rw [Bool.eq_false_iff]
  intro q
  have := List.all_eq_true.1 q p (List.mem_of_getElem? hp)
  rw [h] at this
  cases this
def CspRel (w : World) (ws : List Int) (s6 i : Value) (wr : World) : Prop :=
  ∃ k : Nat, k ≤ ws.length ∧ i = .int .i64 k ∧ s6 = .int .i64 (ws.take k).sum ∧ (∀ n ∈ ws.take k, inB n 0 5761440 = true) ∧ G w wr none
theorem take_mem {l : List Int} {k : Nat} {p : Int} (hp : l[k]? = some p) (h : ∀ n ∈ l.take k, inB n 0 5761440 = true) (hb : inB p 0 5761440 = true) : ∀ n ∈ l.take (k + 1), inB n 0 5761440 = true := fun n hn => by
  rw [List.take_add_one, hp] at hn
  rcases List.mem_append.1 hn with hn | hn
  · exact h n hn
  · simp at hn; rw [hn]; exact hb
set_option maxRecDepth 100000 in
set_option maxHeartbeats 2000000 in
theorem isCents_c (n : Int) (w : World) : Calls Tryd.prog 67 #[.int .i64 n] w fun e w' => e = .returned (.bool (inB n 0 1000000000)) ∧ G w w' none := by
  go_enter Tryd.func67, Tryd.ntmps67
  go_wp2_with fail
  refine (within_c _ _ _ _).mono ?_; rintro e w' ⟨rfl, rfl⟩
  go_wp2_with fail
  go_ret
  exact ⟨rfl, G.refl _ _⟩
set_option maxRecDepth 100000 in
set_option maxHeartbeats 4000000 in
theorem checkSplit_c (c : Int) (v : Value) (ws : List Int) (w : World) (hr : RdI w v ws) (hn : ws.length ≤ 1000) :
    Calls Tryd.prog 40 #[.int .i64 c, v] w fun e w' => e = .returned (.tuple #[.int .i64 (spS c ws), .int .i64 (spE c ws)]) ∧ G w w' none := by
  have HR := Lib.hid hr
  obtain ⟨a, cap, rfl, hcap, hm⟩ := RdR.form hr
  clear hr
  have HE := Lib.hid (show spE c ws = if inB c 0 1000000000 = false then 1 else if 50 < ws.length then 2 else if spA ws = false then 1 else if ws.sum = 0 then 8 else 0 from rfl)
  have HS := Lib.hid (show spS c ws = if spE c ws = 0 then ws.sum else 0 from rfl)
  generalize spS c ws = S at HS ⊢
  generalize spE c ws = E at HE HS ⊢
  go_enter Tryd.func40, Tryd.ntmps40
  go_wp2_with fail
  refine (isCents_c _ _).mono ?_; rintro e w1 ⟨rfl, hG1⟩
  cases k1 : inB c 0 1000000000 with
  | false =>
    have hE : E = 1 := by rw [HE.out, if_pos k1]
    have hS : S = 0 := by rw [HS.out, hE]; rfl
    subst hE
    subst hS
    clear HE HS k1
    go_wp2_with fail
    go_ret2
    exact ⟨rfl, hG1⟩
  | true =>
    have HE1 : Hid (E = if 50 < ws.length then 2 else if spA ws = false then 1 else if ws.sum = 0 then 8 else 0) := Lib.hid (by rw [HE.out, if_neg (by simp [k1])])
    clear HE k1
    by_cases k2 : 50 < ws.length
    · have hE : E = 2 := by rw [HE1.out, if_pos k2]
      have hS : S = 0 := by rw [HS.out, hE]; rfl
      subst hE
      subst hS
      have k2' : (50 : Int) < (ws.length : Int) := by omega
      clear HE1 HS k2
      go_wp2_with fail
      go_ret2
      exact ⟨rfl, hG1⟩
    · have HE2 : Hid (E = if spA ws = false then 1 else if ws.sum = 0 then 8 else 0) := Lib.hid (by rw [HE1.out, if_neg k2])
      have k2' : ¬ (50 : Int) < (ws.length : Int) := by omega
      clear HE1
      go_wp2_with fail
      go_loopw [6, 17] (CspRel w ws) (fun _ i _ => ws.length - (intOf i).toNat)
      case atStart => exact ⟨0, by omega, rfl, rfl, fun n hn => by simp at hn, hG1⟩
      case round =>
        clear hG1
        obtain ⟨k, hk, rfl, rfl, hall, hG⟩ := hrel
        by_cases hlt : k < ws.length
        · obtain ⟨p, hp⟩ : ∃ p, ws[k]? = some p := ⟨_, List.getElem?_eq_getElem hlt⟩
          obtain ⟨bb, bo, rfl, -, -⟩ := RdR.elem inC_sz HR.out hG hp
          have hc := RdR.cell inC_sz HR.out hG hp 0 (.int .i64 p) rfl
          simp only [Nat.add_zero, Nat.mul_one] at hc
          have HP := Lib.hid hp
          have HK := Lib.hid hlt
          have hsb := spA_bnd hall
          have hlen : ((ws.take k).length : Int) ≤ 1000 := by rw [List.length_take]; omega
          clear hp
          go_wp2_with fail
          refine (within_c _ _ _ _).mono ?_; rintro e w' ⟨rfl, rfl⟩
          cases hb : inB p 0 5761440 with
          | false =>
            have hE : E = 1 := by rw [HE2.out, if_pos (spA_false HP.out hb)]
            have hS : S = 0 := by rw [HS.out, hE]; rfl
            subst hE
            subst hS
            clear HE2 HS hb
            go_wp2_with fail
            go_ret2
            exact ⟨rfl, hG⟩
          | true =>
            have hpb : 0 ≤ p ∧ p ≤ 5761440 := by unfold inB at hb; simpa using hb
            have hw : IntKind.i64.wrap ((ws.take k).sum + p) = (ws.take k).sum + p := by rw [IntKind.wrap_i64]; omega
            have HT := Lib.hid (sum_take_succ ws k p HP.out)
            have HA := Lib.hid (take_mem HP.out hall hb)
            generalize (ws.take k).sum = SK at hw HT hsb ⊢
            clear hb hsb hlen
            go_wp2_with fail
            go_roundw
            case rel => exact ⟨k + 1, by omega, by go_num, by rw [HT.out], HA.out, hG⟩
            case measure => have := HK.out; simp [intOf]; omega
        · obtain rfl : k = ws.length := by omega
          rw [List.take_length] at hall ⊢
          have ha : spA ws = true := List.all_eq_true.2 hall
          have HE3 : Hid (E = if ws.sum = 0 then 8 else 0) := Lib.hid (by rw [HE2.out, if_neg (by simp [ha])])
          clear HE2 ha hall
          generalize ws.sum = SM at HE3 HS ⊢
          by_cases h0 : SM = 0
          · have hE : E = 8 := by rw [HE3.out, if_pos h0]
            have hS : S = 0 := by rw [HS.out, hE]; rfl
            subst hE
            subst hS
            subst h0
            clear HE3 HS
            go_wp2_with fail
            go_ret2
            exact ⟨rfl, hG⟩
          · have hE : E = 0 := by rw [HE3.out, if_neg h0]
            have hS : S = SM := by rw [HS.out, if_pos hE]
            have h0' : (SM == 0) = false := by simpa using h0
            subst hE
            subst hS
            clear HE3 HS h0
            go_wp2_with fail
            go_ret2
            exact ⟨rfl, hG⟩
/-- What cmp.Compare returns. -/
def cpI (a b : Int) : Int := if a < b then -1 else if b < a then 1 else 0
set_option maxRecDepth 100000 in
set_option maxHeartbeats 2000000 in
theorem isNaNi_c (n : Int) (w : World) : Calls Tryd.prog 69 #[.int .i64 n] w fun e w' => e = .returned (.bool false) ∧ w = w' := by
  have h : (n != n) = false := by simp
  go_enter Tryd.func69, Tryd.ntmps69
  go_wp2_with fail
  go_ret
  exact ⟨rfl, rfl⟩
set_option maxRecDepth 100000 in
set_option maxHeartbeats 2000000 in
theorem compareI_c (a b : Int) (w : World) : Calls Tryd.prog 44 #[.int .i64 a, .int .i64 b] w fun e w' => e = .returned (.int .i64 (cpI a b)) ∧ w = w' := by
  obtain ⟨R, hR⟩ : ∃ R, cpI a b = R := ⟨_, rfl⟩
  have HR : Hid (R = if a < b then -1 else if b < a then 1 else 0) := Lib.hid (by rw [← hR]; rfl)
  rw [hR]
  clear hR
  go_enter Tryd.func44, Tryd.ntmps44
  go_wp2_with fail
  refine (isNaNi_c _ _).mono ?_; rintro e w' ⟨rfl, rfl⟩
  go_wp2_with fail
  refine (isNaNi_c _ _).mono ?_; rintro e w' ⟨rfl, rfl⟩
  by_cases h1 : a < b
  · obtain rfl : R = -1 := by rw [HR.out, if_pos h1]
    clear HR
    go_wp2_with fail
    go_ret
    exact ⟨rfl, rfl⟩
  · by_cases h2 : b < a
    · obtain rfl : R = 1 := by rw [HR.out, if_neg h1, if_pos h2]
      clear HR
      go_wp2_with fail
      go_ret
      exact ⟨rfl, rfl⟩
    · obtain rfl : R = 0 := by rw [HR.out, if_neg h1, if_neg h2]
      clear HR
      go_wp2_with fail
      go_ret
      exact ⟨rfl, rfl⟩
end Go.Proofs.YtamoefnpfkcigaaDoor

/- Shares: mark.checkShares. -/
namespace Go.Proofs.YtamoefnpfkcigaaDoor
open Go.RowKit

/-- A share: hire, cents. -/
abbrev Sh := ByteArray × Int
def shC (x : Sh) : Array Value := #[.string x.1, .int .i64 x.2]
theorem shC_sz (x : Sh) : (shC x).size = 2 := rfl
theorem sh_info (x : Sh) : (Tryd.prog.info? 46).map (·.size) = some (shC x).size := (by kernel_rfl : (Tryd.prog.info? 46).map (·.size) = some 2)
def ShOk (l : List Sh) : Prop := ∀ x ∈ l, Small x.1
def shK (x : Sh) : Bool := decide (x.1 = ⟨#[]⟩) || keyB x.1
def shAfter (b : Option Sh) (x : Sh) : Bool := match b with | none => false | some y => leB x.1 y.1
def shErr : Option Sh → List Sh → Int
  | _, [] => 0
  | b, x :: r => if shK x = false then 5 else if shAfter b x = true then 7 else if inB x.2 0 1000000000 = false then 1 else shErr (some x) r
def shE (l : List Sh) : Int := if 50 < l.length then 2 else shErr none l
theorem leB_nil (t : ByteArray) : leB ⟨#[]⟩ t = true := by
  unfold leB
  rw [show (ByteArray.mk #[]).toList = [] by rw [ByteArray.toList_eq]]
  cases t.toList with
  | nil => rfl
  | cons a r => simp [Op.bytesLess]
def ShRel (w : World) (l : List Sh) (i : Value) (wr : World) : Prop :=
  ∃ k : Nat, k ≤ l.length ∧ i = .int .i64 k ∧ shErr none l = shErr (prevAt l k) (l.drop k) ∧ G w wr none
theorem shRow {W w : World} {bb bo n cap : Nat} {l : List Sh} (h : RdR W 2 shC (.slice (some ⟨bb, bo, none⟩) n cap) l) (hG : G W w none) {k : Nat} {p : Sh} (hp : l[k]? = some p) :
    ∀ j v, (shC p).toList[j]? = some v → w.cell? ((⟨bb, bo + k * 2, none⟩ : Addr).add j) = some v := fun j v hv => by
  rw [add_at]
  exact RdR.cell shC_sz h hG hp j v hv
set_option maxRecDepth 100000 in
set_option maxHeartbeats 4000000 in
theorem checkShares_c (v : Value) (l : List Sh) (w : World) (hr : RdR w 2 shC v l) (hl : ShOk l) (hn : l.length ≤ 1000) :
    Calls Tryd.prog 47 #[v] w fun e w' => e = .returned (.int .i64 (shE l)) ∧ G w w' none := by
  have HR := Lib.hid hr
  obtain ⟨a, cap, rfl, hcap, hm⟩ := RdR.form hr
  clear hr
  by_cases h30 : 50 < l.length
  · have H := Lib.hid (show shE l = 2 by simp [shE, h30])
    go_enter Tryd.func47, Tryd.ntmps47
    go_wp2_with fail
    go_ret
    exact ⟨by rw [H.out]; rfl, G.refl _ _⟩
  · have H := Lib.hid (show shE l = shErr none l by simp [shE, h30])
    go_enter Tryd.func47, Tryd.ntmps47
    go_wp2_with fail
    go_loopw [10] (ShRel w l) (fun i _ => l.length - (intOf i).toNat)
    case atStart => exact ⟨0, by omega, rfl, rfl, G.refl _ _⟩
    case round =>
      obtain ⟨k, hkl, rfl, heq, hG⟩ := hrel
      have HE := Lib.hid heq
      clear heq
      by_cases hk : k < l.length
      · obtain ⟨p, hp⟩ : ∃ p, l[k]? = some p := ⟨_, List.getElem?_eq_getElem hk⟩
        have hdrop : l.drop k = p :: l.drop (k + 1) := by rw [List.drop_eq_getElem_cons hk, ← (List.getElem?_eq_some_iff.1 hp).2]
        have hs1 := hl p (List.mem_of_getElem? hp)
        unfold Small at hs1
        obtain ⟨s, n⟩ := p
        obtain ⟨bb, bo, rfl, hbb, _⟩ := RdR.elem shC_sz HR.out hG hp
        have HW := Lib.hid (shRow HR.out hG hp)
        have HP := Lib.hid hp
        have HS : Hid (shErr (prevAt l k) (l.drop k) = if shK (s, n) = false then 5 else if shAfter (prevAt l k) (s, n) = true then 7 else if inB n 0 1000000000 = false then 1 else shErr (some (s, n)) (l.drop (k + 1))) := Lib.hid (by rw [hdrop]; rfl)
        have hB5 : Bk (wr.alloc (.cells #[.string s, .int .i64 n] 46)) wr.heap.size 46 (shC (s, n)) := Bk.new wr 46 (shC (s, n))
        have hG5 : G w (wr.alloc (.cells #[.string s, .int .i64 n] 46)) none := hG.alloc (.cells (shC (s, n)) 46)
        clear hdrop hp hG
        by_cases h0 : s = ⟨#[]⟩
        · subst h0
          have HKK : Hid (shK (⟨#[]⟩, n) = true) := Lib.hid rfl
          go_wp2_with (refine wpList_load_at rfl 46 _ rfl ⟨bb, bo + k * 2, none⟩ rfl #[.string ⟨#[]⟩, .int .i64 n] _ HW.out Tryd.underlying46 rfl (sh_info (⟨#[]⟩, n)) ?_)
          clear HW
          generalize wr.alloc (.cells #[.string ⟨#[]⟩, .int .i64 n] 46) = w5 at hB5 hG5 ⊢
          generalize wr.heap.size = g at hB5 ⊢
          have c0 : w5.cell? ⟨g, 0, none⟩ = some (.string ⟨#[]⟩) := hB5.cell 0
          have HS2 : Hid (shErr none l = if shAfter (prevAt l k) (⟨#[]⟩, n) = true then 7 else if inB n 0 1000000000 = false then 1 else shErr (some (⟨#[]⟩, n)) (l.drop (k + 1))) := Lib.hid (by rw [HE.out, HS.out, if_neg (by rw [HKK.out]; decide)])
          clear HS HE
          cases k with
          | zero =>
            have HT : Hid (shErr none l = if inB n 0 1000000000 = false then 1 else shErr (some (⟨#[]⟩, n)) (l.drop (0 + 1))) := Lib.hid (by rw [HS2.out, if_neg (by simp [prevAt, shAfter])])
            clear HS2
            go_quiet (fail)
            have hGq := hG5.drewN nq
            have hBq := hB5.quiet ((G.refl w5 none).drewN nq)
            have e1 : (w5.drewN nq).cell? ⟨g, 1, none⟩ = some (.int .i64 n) := hBq.cell 1
            go_wp2_with fail
            refine (isCents_c n _).mono ?_; rintro e w6 ⟨rfl, hGi⟩
            have hG6 := hGq.trans hGi
            cases hn2 : inB n 0 1000000000 with
            | false =>
              have HF : Hid (shE l = 1) := Lib.hid (by rw [H.out, HT.out, if_pos hn2])
              clear hn2
              go_wp2_with fail
              go_ret
              exact ⟨by rw [HF.out]; rfl, hG6⟩
            | true =>
              have HF : Hid (shErr none l = shErr (prevAt l (0 + 1)) (l.drop (0 + 1))) := Lib.hid (by rw [HT.out, if_neg (by simp [hn2]), prevAt_succ l (0) (⟨#[]⟩, n) HP.out])
              clear hn2
              go_wp2_with fail
              go_roundw
              case rel => exact ⟨0 + 1, by omega, by go_num, HF.out, hG6⟩
              case measure => simp [intOf]; omega
          | succ m =>
            obtain ⟨q, hq2⟩ : ∃ q, l[m]? = some q := ⟨_, List.getElem?_eq_getElem (by omega)⟩
            obtain ⟨t, u⟩ := q
            have HA : Hid (shAfter (prevAt l (m + 1)) (⟨#[]⟩, n) = leB ⟨#[]⟩ t) := Lib.hid (by rw [prevAt_succ l m (t, u) hq2]; rfl)
            have d0 := RdR.cell shC_sz HR.out hG5 hq2 0 (.string t) rfl
            have hsub : IntKind.i64.wrap (((m + 1 : Nat) : Int) - 1) = (m : Int) := by rw [show ((m + 1 : Nat) : Int) - 1 = (m : Int) by omega]; rw [IntKind.wrap_i64]; omega
            have hsub2 : IntKind.i64.wrap (m : Int) = (m : Int) := by rw [IntKind.wrap_i64]; omega
            have hsub3 : IntKind.i64.wrap ((m : Int) + 1 - 1) = (m : Int) := by rw [IntKind.wrap_i64]; omega
            have hm0 : (0 : Int) ≤ (m : Int) := Int.natCast_nonneg m
            have hml : (m : Int) < (l.length : Int) := by omega
            simp only [Nat.add_zero] at d0
            clear hq2
            cases hle : leB ⟨#[]⟩ t with
            | true =>
              have HF : Hid (shE l = 7) := Lib.hid (by rw [H.out, HS2.out, if_pos (by rw [HA.out, hle])])
              clear hle
              have hle2 : (Op.bytesLess [] t.toList || t.toList.isEmpty) = true := by cases t.toList <;> simp [Op.bytesLess]
              go_quiet (fail)
              have hGq := hG5.drewN nq
              go_wp2_with fail
              go_ret
              exact ⟨by rw [HF.out]; rfl, hGq⟩
            | false => exact absurd (leB_nil t) (by rw [hle]; decide)
        · have hk0 : shK (s, n) = keyB s := by simp [shK, h0]
          have HK0 := Lib.hid hk0
          have hz := isE_of (s := s) (by rcases Nat.eq_zero_or_pos s.size with q | q; exact absurd (empty_of q) h0; exact q)
          clear hk0
          go_wp2_with (refine wpList_load_at rfl 46 _ rfl ⟨bb, bo + k * 2, none⟩ rfl #[.string s, .int .i64 n] _ HW.out Tryd.underlying46 rfl (sh_info (s, n)) ?_)
          clear HW
          refine (isKey_c _ _ hs1).mono ?_; rintro e w1 ⟨rfl, rfl⟩
          cases hkb : keyB s with
          | false =>
            have HF : Hid (shE l = 5) := Lib.hid (by rw [H.out, HE.out, HS.out, if_pos (by rw [HK0.out, hkb])])
            clear hkb
            go_wp2_with fail
            go_ret
            exact ⟨by rw [HF.out]; rfl, hG5⟩
          | true =>
            have HKK : Hid (shK (s, n) = true) := Lib.hid (by rw [HK0.out, hkb])
            clear hkb
            go_wp2_with fail
            generalize wr.alloc (.cells #[.string s, .int .i64 n] 46) = w5 at hB5 hG5 ⊢
            generalize wr.heap.size = g at hB5 ⊢
            have c0 : w5.cell? ⟨g, 0, none⟩ = some (.string s) := hB5.cell 0
            have HS2 : Hid (shErr none l = if shAfter (prevAt l k) (s, n) = true then 7 else if inB n 0 1000000000 = false then 1 else shErr (some (s, n)) (l.drop (k + 1))) := Lib.hid (by rw [HE.out, HS.out, if_neg (by rw [HKK.out]; decide)])
            clear HS HE
            cases k with
            | zero =>
              have HT : Hid (shErr none l = if inB n 0 1000000000 = false then 1 else shErr (some (s, n)) (l.drop (0 + 1))) := Lib.hid (by rw [HS2.out, if_neg (by simp [prevAt, shAfter])])
              clear HS2
              go_quiet (fail)
              have hGq := hG5.drewN nq
              have hBq := hB5.quiet ((G.refl w5 none).drewN nq)
              have e1 : (w5.drewN nq).cell? ⟨g, 1, none⟩ = some (.int .i64 n) := hBq.cell 1
              go_wp2_with fail
              refine (isCents_c n _).mono ?_; rintro e w6 ⟨rfl, hGi⟩
              have hG6 := hGq.trans hGi
              cases hn2 : inB n 0 1000000000 with
              | false =>
                have HF : Hid (shE l = 1) := Lib.hid (by rw [H.out, HT.out, if_pos hn2])
                clear hn2
                go_wp2_with fail
                go_ret
                exact ⟨by rw [HF.out]; rfl, hG6⟩
              | true =>
                have HF : Hid (shErr none l = shErr (prevAt l (0 + 1)) (l.drop (0 + 1))) := Lib.hid (by rw [HT.out, if_neg (by simp [hn2]), prevAt_succ l (0) (s, n) HP.out])
                clear hn2
                go_wp2_with fail
                go_roundw
                case rel => exact ⟨0 + 1, by omega, by go_num, HF.out, hG6⟩
                case measure => simp [intOf]; omega
            | succ m =>
              obtain ⟨q, hq2⟩ : ∃ q, l[m]? = some q := ⟨_, List.getElem?_eq_getElem (by omega)⟩
              obtain ⟨t, u⟩ := q
              have HA : Hid (shAfter (prevAt l (m + 1)) (s, n) = leB s t) := Lib.hid (by rw [prevAt_succ l m (t, u) hq2]; rfl)
              have d0 := RdR.cell shC_sz HR.out hG5 hq2 0 (.string t) rfl
              have hsub : IntKind.i64.wrap (((m + 1 : Nat) : Int) - 1) = (m : Int) := by rw [show ((m + 1 : Nat) : Int) - 1 = (m : Int) by omega]; rw [IntKind.wrap_i64]; omega
              have hsub2 : IntKind.i64.wrap (m : Int) = (m : Int) := by rw [IntKind.wrap_i64]; omega
              have hsub3 : IntKind.i64.wrap ((m : Int) + 1 - 1) = (m : Int) := by rw [IntKind.wrap_i64]; omega
              have hm0 : (0 : Int) ≤ (m : Int) := Int.natCast_nonneg m
              have hml : (m : Int) < (l.length : Int) := by omega
              simp only [Nat.add_zero] at d0
              clear hq2
              cases hle : leB s t with
              | true =>
                have HF : Hid (shE l = 7) := Lib.hid (by rw [H.out, HS2.out, if_pos (by rw [HA.out, hle])])
                unfold leB at hle
                go_quiet (fail)
                have hGq := hG5.drewN nq
                go_wp2_with fail
                go_ret
                exact ⟨by rw [HF.out]; rfl, hGq⟩
              | false =>
                have HT : Hid (shErr none l = if inB n 0 1000000000 = false then 1 else shErr (some (s, n)) (l.drop (m + 1 + 1))) := Lib.hid (by rw [HS2.out, if_neg (by rw [HA.out, hle]; decide)])
                clear HS2 HA
                unfold leB at hle
                go_quiet (fail)
                have hGq := hG5.drewN nq
                have hBq := hB5.quiet ((G.refl w5 none).drewN nq)
                have e1 : (w5.drewN nq).cell? ⟨g, 1, none⟩ = some (.int .i64 n) := hBq.cell 1
                go_wp2_with fail
                refine (isCents_c n _).mono ?_; rintro e w6 ⟨rfl, hGi⟩
                have hG6 := hGq.trans hGi
                cases hn2 : inB n 0 1000000000 with
                | false =>
                  have HF : Hid (shE l = 1) := Lib.hid (by rw [H.out, HT.out, if_pos hn2])
                  clear hn2
                  go_wp2_with fail
                  go_ret
                  exact ⟨by rw [HF.out]; rfl, hG6⟩
                | true =>
                  have HF : Hid (shErr none l = shErr (prevAt l (m + 1 + 1)) (l.drop (m + 1 + 1))) := Lib.hid (by rw [HT.out, if_neg (by simp [hn2]), prevAt_succ l (m + 1) (s, n) HP.out])
                  clear hn2
                  go_wp2_with fail
                  go_roundw
                  case rel => exact ⟨m + 1 + 1, by omega, by go_num, HF.out, hG6⟩
                  case measure => simp [intOf]; omega
      · obtain rfl : k = l.length := by omega
        have HE2 : Hid (shE l = 0) := Lib.hid (by rw [H.out, HE.out, List.drop_length]; rfl)
        go_wp2_with fail
        go_ret
        exact ⟨by rw [HE2.out]; rfl, hG⟩
end Go.Proofs.YtamoefnpfkcigaaDoor

/- Tiers: CheckTiers; the reference's TiersFault. -/
namespace Go.Proofs.YtamoefnpfkcigaaDoor
open Go.RowKit

/-- A tier: before, permille. -/
abbrev Ti := Int × Int
def tiC (x : Ti) : Array Value := #[.int .i64 x.1, .int .i64 x.2]
theorem tiC_sz (x : Ti) : (tiC x).size = 2 := rfl
def TiOk (l : List Ti) : Prop := ∀ x ∈ l, bnd x.1 ∧ bnd x.2
def tiAfter (b : Option Ti) (x : Ti) : Bool := match b with | none => false | some y => decide (y.1 ≤ x.1) || decide (x.2 < y.2)
def tiErr : Option Ti → List Ti → Int
  | _, [] => 0
  | b, x :: r => if inB x.1 1 5761440 = false then 1 else if inB x.2 0 1000 = false then 1 else if tiAfter b x = true then 7 else tiErr (some x) r
def tiE (l : List Ti) : Int := if 10 < l.length then 2 else tiErr none l
def TiRel (w : World) (l : List Ti) (i : Value) (wr : World) : Prop :=
  ∃ k : Nat, k ≤ l.length ∧ i = .int .i64 k ∧ tiErr none l = tiErr (prevAt l k) (l.drop k) ∧ G w wr none
theorem tiRow {W w : World} {bb bo n cap : Nat} {l : List Ti} (h : RdR W 2 tiC (.slice (some ⟨bb, bo, none⟩) n cap) l) (hG : G W w none) {k : Nat} {p : Ti} (hp : l[k]? = some p) :
    ∀ j v, (tiC p).toList[j]? = some v → w.cell? ((⟨bb, bo + k * 2, none⟩ : Addr).add j) = some v := fun j v hv => by
  rw [add_at]
  exact RdR.cell tiC_sz h hG hp j v hv
end Go.Proofs.YtamoefnpfkcigaaDoor

/- What was picked; a block as a row; 'when' at literals. -/
namespace Go.Proofs.YtamoefnpfkcigaaDoor
open Go.RowKit

theorem small_of {s : ByteArray} (h : s.size ≤ 100) : Small s := by unfold Small; omega
theorem bnd_pick {zs : List Int} {r : Int} (h : r ∈ zs) (hz : zs.all (fun z => decide (-1099511627776 ≤ z ∧ z ≤ 1099511627776)) = true) : bnd r := by
  unfold bnd
  exact of_decide_eq_true (List.all_eq_true.1 hz r h)
theorem small_pick {zs : List ByteArray} {r : ByteArray} (h : r ∈ zs) (hz : zs.all (fun z => decide (z.size ≤ 100)) = true) : Small r := small_of (of_decide_eq_true (List.all_eq_true.1 hz r h))
theorem Bk.rd {w : World} {g : Nat} {T : TypeId} {cs : Array Value} (h : Bk w g T cs) (z n : Nat) (hc : cs.size = n * z) (hn : n ≤ 1000) : Rd w z (.slice (some ⟨g, 0, none⟩) n n) n cs.toList := by
  refine ⟨_, n, rfl, Nat.le_refl _, by unfold maxLen; omega, by simpa using hc, (fun e => by cases e), fun b hb => ?_⟩
  obtain rfl := Option.some.inj hb
  refine ⟨rfl, h.lt, fun j u hj => ?_⟩
  rw [Nat.zero_add, h.cell]
  simpa using hj
end Go.Proofs.YtamoefnpfkcigaaDoor

/- CancelFee; the reference's CancelOf. -/
namespace Go.Proofs.YtamoefnpfkcigaaDoor
open Go.RowKit

/-- The permille of the last tier that is meant. -/
def cnS (d a : Int) (x : Ti) : Int := if d < x.1 then x.2 else a
def cnP (l : List Ti) (d : Int) : Int := l.foldl (cnS d) 0
theorem cnP_succ {l : List Ti} {k : Nat} {p : Ti} (d : Int) (hp : l[k]? = some p) : cnP (l.take (k + 1)) d = cnS d (cnP (l.take k) d) p := by
  have hk : k < l.length := (List.getElem?_eq_some_iff.1 hp).1
  have e : l.take (k + 1) = l.take k ++ [p] := by
    rw [List.take_succ_eq_append_getElem hk, (List.getElem?_eq_some_iff.1 hp).2]
  unfold cnP
  rw [e, List.foldl_append]
  rfl
theorem cnP_rng {l : List Ti} (h : ∀ x ∈ l, 0 ≤ x.2 ∧ x.2 ≤ 1000) (d : Int) : 0 ≤ cnP l d ∧ cnP l d ≤ 1000 := by
  have : ∀ (r : List Ti) (a : Int), (∀ x ∈ r, 0 ≤ x.2 ∧ x.2 ≤ 1000) → 0 ≤ a ∧ a ≤ 1000 → 0 ≤ r.foldl (cnS d) a ∧ r.foldl (cnS d) a ≤ 1000 := by
    intro r
    induction r with
    | nil => intro a _ ha; exact ha
    | cons x r ih =>
      intro a hx ha
      refine ih _ (fun y hy => hx y (List.mem_cons_of_mem _ hy)) ?_
      unfold cnS
      split
      · exact hx x (List.mem_cons_self ..)
      · exact ha
  exact this l 0 h (by omega)
theorem tiErr_ok {l : List Ti} : ∀ {b : Option Ti}, tiErr b l = 0 → ∀ x ∈ l, 0 ≤ x.2 ∧ x.2 ≤ 1000 := by
  induction l with
  | nil => intro b _ x hx; cases hx
  | cons y r ih =>
    intro b h
    unfold tiErr at h
    split at h
    · exact absurd h (by decide)
    · split at h
      · exact absurd h (by decide)
      · rename_i h2
        split at h
        · exact absurd h (by decide)
        · intro x hx
          rcases List.mem_cons.1 hx with rfl | hx
          · simp only [inB, Bool.not_eq_false, Bool.and_eq_true, decide_eq_true_eq] at h2
            omega
          · exact ih h x hx
theorem tiE_ok {l : List Ti} (h : tiE l = 0) : ∀ x ∈ l, 0 ≤ x.2 ∧ x.2 ≤ 1000 := by
  unfold tiE at h
  split at h
  · exact absurd h (by decide)
  · exact tiErr_ok h
theorem boE_ok {b : Bo} (h : boE [b] = 0) : 0 ≤ b.2.2.1 ∧ b.2.2.1 < 5761440 := by
  have h1 : boErr ⟨#[]⟩ [b] = 0 := h
  unfold boErr at h1
  split at h1
  · exact absurd h1 (by decide)
  · split at h1
    · exact absurd h1 (by decide)
    · split at h1
      · exact absurd h1 (by decide)
      · split at h1
        · exact absurd h1 (by decide)
        · rename_i h2
          simp only [boT, Bool.not_eq_false, Bool.and_eq_true] at h2
          have := (timB_iff _ _).1 h2.1
          omega
theorem one_len (b : Bo) : ([b] : List Bo).length ≤ 1000 := by simp
theorem BoOk.one {b : Bo} (h : boB b) : BoOk [b] := fun x hx => by
  obtain rfl := List.mem_singleton.1 hx
  exact h
def cfE (l : List Ti) (b : Bo) (c t : Int) : Int := if tiE l = 0 then (if boE [b] = 0 then (if inB c 0 1000000000 = false then 1 else if momB t = false then 1 else 0) else boE [b]) else tiE l
def cfN (l : List Ti) (b : Bo) (c t : Int) : Int := if cfE l b c t = 0 then c * cnP l (b.2.2.1 - t) / 1000 else 0
end Go.Proofs.YtamoefnpfkcigaaDoor

/- basic.Lowest. -/
namespace Go.Proofs.YtamoefnpfkcigaaDoor
open Go.RowKit

def frC (a b : Int) : Array Value := #[.int .i64 a, .int .i64 b]
theorem fr_one (a b : Int) : (frC a b).all (·.oneCell') = true := by simp [frC, Value.oneCell']
theorem quo_wrap (n a q : Nat) (hn : n ≤ 1000000000000000000) (hq : n / a = q) : IntKind.i64.wrap ((n : Int) / (a : Int)) = (q : Int) := by
  have h2 : q ≤ n := by rw [← hq]; exact Nat.div_le_self n a
  have h1 : (n : Int) / (a : Int) = (q : Int) := by rw [← hq]; rfl
  rw [h1, IntKind.wrap_i64]
  omega
end Go.Proofs.YtamoefnpfkcigaaDoor

/- The law's own 'booked': the odds of one booking. -/
namespace Go.Proofs.YtamoefnpfkcigaaDoor
open Go.RowKit

def coE (l : List Bo) : Int := if boE l = 0 then (if 9 < l.length then 2 else 0) else boE l
def bo1 : Bo := (⟨#[97]⟩, ⟨#[99]⟩, 0, 1, 0, 50)
theorem bo1_ok : boB bo1 := ⟨small_of (by decide), small_of (by decide), by unfold bnd bo1; dsimp only; omega, by unfold bnd bo1; dsimp only; omega, by unfold bnd bo1; dsimp only; omega, by unfold bnd bo1; dsimp only; omega⟩
theorem coE_one : coE [bo1] = 0 := by
  have h1 : boE [bo1] = 0 := by
    show boErr ⟨#[]⟩ [bo1] = 0
    unfold boErr bo1
    dsimp only
    rw [if_neg (by rw [show keyB ⟨#[97]⟩ = true by decide]; decide), if_neg (by rw [show keyB ⟨#[99]⟩ = true by decide]; decide), if_neg (by rw [leB_cmp]; decide), if_neg (by decide)]
    rfl
  rw [coE, if_pos h1, if_neg (by decide)]
/-! A row of fractions that the call owns. -/
abbrev Fr := Int × Int
def frV (x : Fr) : Array Value := frC x.1 x.2
theorem frV_sz (x : Fr) : (frV x).size = 2 := rfl
theorem frV_one (r : Fr) : ∀ u ∈ (frV r).toList, u.oneCell' = true := by
  intro u hu
  simp [frV, frC] at hu
  rcases hu with rfl | rfl <;> rfl
def EqfRel (l m : List Fr) (w : World) (i : Value) (wr : World) : Prop := ∃ k n : Nat, k ≤ l.length ∧ i = .int .i64 k ∧ l.take k = m.take k ∧ wr = w.drewN n
theorem take_succ_eq {l m : List Fr} {k : Nat} {x : Fr} (h : l.take k = m.take k) (hx : l[k]? = some x) (hy : m[k]? = some x) : l.take (k + 1) = m.take (k + 1) := by
  rw [List.take_add_one, List.take_add_one, h, hx, hy]
end Go.Proofs.YtamoefnpfkcigaaDoor

/- slices.Equal of shares. Written by genshq.py. -/
namespace Go.Proofs.YtamoefnpfkcigaaDoor
open Go.RowKit

theorem sh_neq (x y : Sh) (w : World) : (binOp .neq 46 (.agg (shC x)) (.agg (shC y))).run Tryd.prog w = .ok (.bool (!(decide (x = y)))) w := by
  obtain ⟨a, b⟩ := x
  obtain ⟨c, d⟩ := y
  have ht : Tryd.prog.underlying 46 = some (.struct (Tryd.prog.fieldsOf 46)) := by kernel_rfl
  have hp : Tryd.prog.stoodInHeld 46 = false := by kernel_rfl
  rw [run_neq_struct, run_equalIn_agg w 9999 46 _ _ ht hp]
  simp [shC, Tryd.underlying46, Tryd.underlying3, Tryd.underlying9, go_sem]
  by_cases h1 : a = c
  · by_cases h2 : b = d <;> simp [h1, h2]
  · have h3 : ¬ a.toList = c.toList := fun e => h1 (eqB_iff.1 (by unfold eqB; rw [e]; simp))
    by_cases h2 : b = d <;> simp [h1, h2, h3]
def EqsRel (l m : List Sh) (w : World) (i : Value) (wr : World) : Prop := ∃ k n : Nat, k ≤ l.length ∧ i = .int .i64 k ∧ l.take k = m.take k ∧ wr = w.drewN n
theorem take_succ_eqS {l m : List Sh} {k : Nat} {x : Sh} (h : l.take k = m.take k) (hx : l[k]? = some x) (hy : m[k]? = some x) : l.take (k + 1) = m.take (k + 1) := by
  rw [List.take_add_one, List.take_add_one, h, hx, hy]
set_option maxRecDepth 100000 in
set_option maxHeartbeats 4000000 in
theorem shEqual_c (v u : Value) (l m : List Sh) (w : World) (hr : RdR w 2 shC v l) (hs : RdR w 2 shC u m) (hn : l.length ≤ 1000000) :
    Calls Tryd.prog 17 #[v, u] w fun e w' => e = .returned (.bool (decide (l = m))) ∧ G w w' none := by
  have HR := Lib.hid hr
  have HS := Lib.hid hs
  obtain ⟨a, cap, rfl, hcap, hm1⟩ := RdR.form hr
  obtain ⟨a2, cap2, rfl, hcap2, hm2⟩ := RdR.form hs
  clear hr hs
  by_cases hlen : l.length = m.length
  · have hlq : ((l.length : Int) != (m.length : Int)) = false := by rw [hlen]; simp
    have hlq2 : ((m.length : Int) != (l.length : Int)) = false := by rw [hlen]; simp
    have HL := Lib.hid hlen
    clear hlen
    go_enter Tryd.func17, Tryd.ntmps17
    go_wp2_with fail
    go_loopw [13] (EqsRel l m w) (fun i _ => l.length - (intOf i).toNat)
    case atStart => exact ⟨0, 0, by omega, rfl, rfl, rfl⟩
    case round =>
      obtain ⟨k, n, hk, rfl, heq, rfl⟩ := hrel
      have HE := Lib.hid heq
      clear heq
      by_cases hlt : k < l.length
      · obtain ⟨x, hx⟩ : ∃ x, l[k]? = some x := ⟨_, List.getElem?_eq_getElem hlt⟩
        obtain ⟨y, hy⟩ : ∃ y, m[k]? = some y := ⟨_, List.getElem?_eq_getElem (by rw [← HL.out]; exact hlt)⟩
        have hlt2 : k < m.length := by have := HL.out; omega
        obtain ⟨bb, bo, rfl, hbb, _⟩ := RdR.elem shC_sz HR.out (G.refl w none) hx
        obtain ⟨b2, o2, rfl, hb2, _⟩ := RdR.elem shC_sz HS.out (G.refl w none) hy
        have d0 := RdR.cell shC_sz HR.out (G.refl w none) hx 0 (.string x.1) rfl
        have d1 := RdR.cell shC_sz HR.out (G.refl w none) hx 1 (.int .i64 x.2) rfl
        have e0 := RdR.cell shC_sz HS.out (G.refl w none) hy 0 (.string y.1) rfl
        have e1 := RdR.cell shC_sz HS.out (G.refl w none) hy 1 (.int .i64 y.2) rfl
        simp only [Nat.add_zero] at d0 e0
        have HX := Lib.hid hx
        have HY := Lib.hid hy
        clear hx hy
        by_cases hxy : x = y
        · have hnq : ∀ w : World, (binOp .neq 46 (.agg #[.string x.1, .int .i64 x.2]) (.agg #[.string y.1, .int .i64 y.2])).run Tryd.prog w = .ok (.bool false) w := fun w => by
            have := sh_neq x y w
            rw [decide_eq_true hxy] at this
            exact this
          have HT : Hid (l.take (k + 1) = m.take (k + 1)) := Lib.hid (take_succ_eqS HE.out HX.out (by rw [hxy]; exact HY.out))
          clear hxy HX HY
          go_wp2_with fail
          go_quiet (fail)
          go_wp2_with fail
          go_roundw
          case rel => exact ⟨k + 1, _, by omega, by go_num, HT.out, rfl⟩
          case measure => simp [intOf]; omega
        · have hnq : ∀ w : World, (binOp .neq 46 (.agg #[.string x.1, .int .i64 x.2]) (.agg #[.string y.1, .int .i64 y.2])).run Tryd.prog w = .ok (.bool true) w := fun w => by
            have := sh_neq x y w
            rw [decide_eq_false hxy] at this
            exact this
          have HT : Hid (decide (l = m) = false) := Lib.hid (decide_eq_false (fun e => hxy (by have h1 := HX.out; rw [e, HY.out] at h1; exact (Option.some.inj h1).symm)))
          clear hxy HX HY
          go_wp2_with fail
          go_quiet (fail)
          go_wp2_with fail
          go_ret
          exact ⟨ret_bool HT.out.symm, ((G.refl _ _).drewN _).drewN _⟩
      · obtain rfl : k = l.length := by omega
        have HT : Hid (decide (l = m) = true) := Lib.hid (decide_eq_true (by have h := HE.out; rwa [List.take_length, HL.out, List.take_length] at h))
        go_wp2_with fail
        go_ret
        exact ⟨ret_bool HT.out.symm, (G.refl _ _).drewN _⟩
  · have hlq : ((l.length : Int) != (m.length : Int)) = true := by rw [bne_iff_ne]; omega
    have hlq2 : ¬ l.length = m.length := hlen
    have HT : Hid (decide (l = m) = false) := Lib.hid (decide_eq_false (fun e => hlen (by rw [e])))
    clear hlen
    go_enter Tryd.func17, Tryd.ntmps17
    go_wp2_with fail
    go_ret
    exact ⟨ret_bool HT.out.symm, G.refl _ _⟩
end Go.Proofs.YtamoefnpfkcigaaDoor

/- Waivers: their check. Written by genwai.py. -/
namespace Go.Proofs.YtamoefnpfkcigaaDoor
open Go.RowKit

/-- A waiver: hire, excess. -/
abbrev Wv := ByteArray × Int
def wvC (x : Wv) : Array Value := #[.string x.1, .int .i64 x.2]
theorem wvC_sz (x : Wv) : (wvC x).size = 2 := rfl
theorem wv_info (x : Wv) : (Tryd.prog.info? 82).map (·.size) = some (wvC x).size := (by kernel_rfl : (Tryd.prog.info? 82).map (·.size) = some 2)
def WvOk (l : List Wv) : Prop := ∀ x ∈ l, Small x.1
def wvT (x : Wv) : Bool := inB x.2 0 1000000000
def wvErr (b : ByteArray) : List Wv → Int
  | [] => 0
  | x :: r => if keyB x.1 = false then 5 else if leB x.1 b = true then 7 else if wvT x = false then 1 else wvErr x.1 r
def wvE (l : List Wv) : Int := if 500 < l.length then 2 else wvErr ⟨#[]⟩ l
def WvRel (w : World) (l : List Wv) (v i : Value) (wr : World) : Prop :=
  ∃ (k : Nat) (b : ByteArray), k ≤ l.length ∧ i = .int .i64 k ∧ v = .string b ∧ wvErr ⟨#[]⟩ l = wvErr b (l.drop k) ∧ G w wr none
theorem wvRow {W w : World} {bb bo n cap : Nat} {l : List Wv} (h : RdR W 2 wvC (.slice (some ⟨bb, bo, none⟩) n cap) l) (hG : G W w none) {k : Nat} {p : Wv} (hp : l[k]? = some p) :
    ∀ j v, (wvC p).toList[j]? = some v → w.cell? ((⟨bb, bo + k * 2, none⟩ : Addr).add j) = some v := fun j v hv => by
  rw [add_at]
  exact RdR.cell wvC_sz h hG hp j v hv
set_option maxRecDepth 100000 in
set_option maxHeartbeats 4000000 in
theorem checkWaivers_c (v : Value) (l : List Wv) (w : World) (hr : RdR w 2 wvC v l) (hl : WvOk l) (hn : l.length ≤ 1000) :
    Calls Tryd.prog 48 #[v] w fun e w' => e = .returned (.int .i64 (wvE l)) ∧ G w w' none := by
  have HR := Lib.hid hr
  obtain ⟨a, cap, rfl, hcap, hm⟩ := RdR.form hr
  clear hr
  by_cases h30 : 500 < l.length
  · have H := Lib.hid (show wvE l = 2 by simp [wvE, h30])
    go_enter Tryd.func48, Tryd.ntmps48
    go_wp2_with fail
    go_ret
    exact ⟨by rw [H.out]; rfl, G.refl _ _⟩
  · have H := Lib.hid (show wvE l = wvErr ⟨#[]⟩ l by simp [wvE, h30])
    go_enter Tryd.func48, Tryd.ntmps48
    go_wp2_with fail
    go_loopw [3, 11] (WvRel w l) (fun _ i _ => l.length - (intOf i).toNat)
    case atStart => exact ⟨0, ⟨#[]⟩, by omega, rfl, rfl, rfl, G.refl _ _⟩
    case round =>
      obtain ⟨k, b, hkl, rfl, rfl, heq, hG⟩ := hrel
      have HE := Lib.hid heq
      clear heq
      by_cases hk : k < l.length
      · obtain ⟨p, hp⟩ : ∃ p, l[k]? = some p := ⟨_, List.getElem?_eq_getElem hk⟩
        have hdrop : l.drop k = p :: l.drop (k + 1) := by rw [List.drop_eq_getElem_cons hk, ← (List.getElem?_eq_some_iff.1 hp).2]
        have hs1 := hl p (List.mem_of_getElem? hp)
        obtain ⟨bb, bo, rfl, -, -⟩ := RdR.elem wvC_sz HR.out hG hp
        have HW := Lib.hid (wvRow HR.out hG hp)
        unfold Small at hs1
        have HS : Hid (wvErr b (l.drop k) = if keyB p.1 = false then 5 else if leB p.1 b = true then 7 else if wvT p = false then 1 else wvErr p.1 (l.drop (k + 1))) := Lib.hid (by rw [hdrop]; rfl)
        have HK := Lib.hid hk
        have hB5 : Bk (wr.alloc (.cells #[.string p.1, .int .i64 p.2] 82)) wr.heap.size 82 (wvC p) := Bk.new _ _ _
        have hG5 := hG.alloc (.cells #[.string p.1, .int .i64 p.2] 82)
        clear hdrop hp hG
        go_wp2_with (refine wpList_load_at rfl 82 _ rfl ⟨bb, bo + k * 2, none⟩ rfl #[.string p.1, .int .i64 p.2] _ HW.out Tryd.underlying82 rfl (wv_info p) ?_)
        generalize wr.alloc (.cells #[.string p.1, .int .i64 p.2] 82) = w5 at hB5 hG5 ⊢
        generalize wr.heap.size = g at hB5 ⊢
        refine (isKey_c _ _ hs1).mono ?_; rintro e w1 ⟨rfl, rfl⟩
        have c0 : w5.cell? ⟨g, 0, none⟩ = some (.string p.1) := hB5.cell 0
        have c1 : w5.cell? ⟨g, 1, none⟩ = some (.int .i64 p.2) := hB5.cell 1
        cases hkb : keyB p.1 with
        | false =>
          have HF : Hid (wvE l = 5) := Lib.hid (by rw [H.out, HE.out, HS.out, if_pos hkb])
          clear hkb
          go_wp2_with fail
          go_ret
          exact ⟨by rw [HF.out]; rfl, hG5⟩
        | true =>
          have HKB := Lib.hid hkb
          clear hkb
          cases hle : leB p.1 b with
          | true =>
            have HF : Hid (wvE l = 7) := Lib.hid (by rw [H.out, HE.out, HS.out, if_neg (by simp [HKB.out]), if_pos hle])
            unfold leB at hle
            go_wp2_with fail
            go_ret
            exact ⟨by rw [HF.out]; rfl, hG5⟩
          | false =>
            have HS2 : Hid (wvErr ⟨#[]⟩ l = if wvT p = false then 1 else wvErr p.1 (l.drop (k + 1))) := Lib.hid (by rw [HE.out, HS.out, if_neg (by simp [HKB.out]), if_neg (by simp [hle])])
            unfold leB at hle
            clear HS HE
            go_wp2_with fail
            refine (isCents_c p.2 _).mono ?_; rintro e w6 ⟨rfl, hGi⟩
            have hB5 := hB5.quiet hGi
            have hG5 := hG5.trans hGi
            clear hGi c0 c1
            have c0 : w6.cell? ⟨g, 0, none⟩ = some (.string p.1) := hB5.cell 0
            have c1 : w6.cell? ⟨g, 1, none⟩ = some (.int .i64 p.2) := hB5.cell 1
            cases k0 : inB p.2 0 1000000000 with
            | false =>
              have HF : Hid (wvE l = 1) := Lib.hid (by rw [H.out, HS2.out, if_pos (by simp [wvT, k0])])
              clear k0
              go_wp2_with fail
              go_ret
              exact ⟨by rw [HF.out]; rfl, hG5⟩
            | true =>
              have K0 := Lib.hid k0
              clear k0
              have HF : Hid (wvErr ⟨#[]⟩ l = wvErr p.1 (l.drop (k + 1))) := Lib.hid (by rw [HS2.out, if_neg (by simp [wvT, K0.out])])
              go_wp2_with fail
              go_roundw
              case rel => exact ⟨k + 1, p.1, by omega, by go_num, rfl, HF.out, hG5⟩
              case measure => have := HK.out; simp [intOf]; omega
      · obtain rfl : k = l.length := by omega
        have HE2 : Hid (wvE l = 0) := Lib.hid (by rw [H.out, HE.out, List.drop_length]; rfl)
        go_wp2_with fail
        go_ret
        exact ⟨by rw [HE2.out]; rfl, hG⟩
end Go.Proofs.YtamoefnpfkcigaaDoor

/- The reference's ExcessOf. -/
namespace Go.Proofs.YtamoefnpfkcigaaDoor
open Go.RowKit

theorem sh_oneL (r : Sh) : ∀ u ∈ (shC r).toList, u.oneCell' = true := by
  intro u hu
  simp [shC] at hu
  rcases hu with rfl | rfl <;> rfl
theorem sh_rowOk : RowOk Tryd.prog 46 34 2 24 (.agg #[.string ⟨#[]⟩, .int .i64 0]) shC := ⟨by kernel_rfl, Tryd.underlying34, sh_oneL, shC_sz, rfl, by omega, by omega⟩
abbrev OwnSh (w : World) (base : Nat) (v : Value) (l : List Sh) : Prop := OwnX 46 2 shC w base v l
def pyS (s : ByteArray) (a : Int) (x : Wv) : Int := if x.1 = s then min a x.2 else a
def payW (s : Sh) (z : List Wv) : Int := z.foldl (pyS s.1) s.2
def payS (s : Sh) (z : List Wv) : Int := if s.1 = ⟨#[]⟩ then 0 else payW s z
def exL : List Sh → List Wv → List Sh
  | [], _ => []
  | s :: r, z => if s.1 = ⟨#[]⟩ then exL r z else (s.1, payW s z) :: exL r z
def exR (l : List Sh) (z : List Wv) : Int := (l.map fun s => s.2 - payS s z).sum
theorem exL_snoc (l : List Sh) (z : List Wv) (s : Sh) : exL (l ++ [s]) z = if s.1 = ⟨#[]⟩ then exL l z else exL l z ++ [(s.1, payW s z)] := by
  induction l with
  | nil => simp [exL]
  | cons a r ih =>
    rw [List.cons_append, exL, exL, ih]
    split <;> split <;> simp
theorem exL_len (l : List Sh) (z : List Wv) : (exL l z).length ≤ l.length := by
  induction l with
  | nil => simp [exL]
  | cons a r ih =>
    rw [exL]
    split
    · simp; omega
    · simp; omega
def MoOk (l : List (ByteArray × Int)) : Prop := ∀ x ∈ l, 0 ≤ x.2 ∧ x.2 ≤ 1000000000
theorem payW_bnd {s : Sh} {z : List Wv} (hs : 0 ≤ s.2 ∧ s.2 ≤ 1000000000) (hz : MoOk z) : 0 ≤ payW s z ∧ payW s z ≤ s.2 := by
  have key : ∀ (r : List Wv) (a : Int), (∀ x ∈ r, 0 ≤ x.2 ∧ x.2 ≤ 1000000000) → 0 ≤ a → 0 ≤ r.foldl (pyS s.1) a ∧ r.foldl (pyS s.1) a ≤ a := by
    intro r
    induction r with
    | nil => intro a _ ha; exact ⟨ha, Int.le_refl a⟩
    | cons x r ih =>
      intro a hx ha
      have h1 := hx x (List.mem_cons_self ..)
      have h2 : 0 ≤ pyS s.1 a x ∧ pyS s.1 a x ≤ a := by
        unfold pyS
        split
        · omega
        · omega
      have h3 := ih (pyS s.1 a x) (fun y hy => hx y (List.mem_cons_of_mem _ hy)) h2.1
      simp only [List.foldl_cons]
      omega
  exact key z s.2 hz hs.1
theorem payS_bnd {s : Sh} {z : List Wv} (hs : 0 ≤ s.2 ∧ s.2 ≤ 1000000000) (hz : MoOk z) : 0 ≤ payS s z ∧ payS s z ≤ s.2 := by
  unfold payS
  split
  · exact ⟨Int.le_refl 0, hs.1⟩
  · exact payW_bnd hs hz
theorem exR_snoc (l : List Sh) (z : List Wv) (s : Sh) : exR (l ++ [s]) z = exR l z + (s.2 - payS s z) := by simp [exR]
theorem exR_bnd {l : List Sh} {z : List Wv} (hl : MoOk l) (hz : MoOk z) : 0 ≤ exR l z ∧ exR l z ≤ 1000000000 * l.length := by
  induction l with
  | nil => simp [exR]
  | cons s r ih =>
    have h1 := ih (fun x hx => hl x (List.mem_cons_of_mem _ hx))
    have h2 := hl s (List.mem_cons_self ..)
    have h3 := payS_bnd h2 hz
    have h4 : exR (s :: r) z = (s.2 - payS s z) + exR r z := by simp [exR]
    rw [h4, List.length_cons]
    omega
theorem payW_take {s : Sh} {z : List Wv} {j : Nat} {x : Wv} (h : z[j]? = some x) : payW s (z.take (j + 1)) = pyS s.1 (payW s (z.take j)) x := by
  unfold payW
  rw [List.take_add_one, h, List.foldl_append]
  rfl
theorem take_sn {α : Type} {l : List α} {k : Nat} {x : α} (h : l[k]? = some x) : l.take (k + 1) = l.take k ++ [x] := by
  rw [List.take_add_one, h]; rfl
def EoRel (w : World) (l : List Sh) (z : List Wv) (s6 s7 s15 : Value) (wr : World) : Prop :=
  ∃ k : Nat, k ≤ l.length ∧ s15 = .int .i64 k ∧ OwnSh wr w.heap.size s6 (exL (l.take k) z) ∧ s7 = .int .i64 (exR (l.take k) z) ∧ G w wr none
def EpRel (w : World) (s : Sh) (z : List Wv) (s10 s23 : Value) (wr : World) : Prop :=
  ∃ j : Nat, j ≤ z.length ∧ s23 = .int .i64 j ∧ s10 = .int .i64 (payW s (z.take j)) ∧ G w wr none
set_option maxRecDepth 100000 in
set_option maxHeartbeats 4000000 in
theorem excessOf_c (v v2 : Value) (l : List Sh) (z : List Wv) (w : World) (hr : RdR w 2 shC v l) (hr2 : RdR w 2 wvC v2 z) (hl : MoOk l) (hz : MoOk z) (hn : l.length ≤ 500) (hn2 : z.length ≤ 500) :
    Calls Tryd.prog 16 #[v, v2] w fun e w' => ∃ v', e = .returned (.tuple #[v', .int .i64 (exR l z)]) ∧ OwnSh w' w.heap.size v' (exL l z) ∧ G w w' none := by
  have HR := Lib.hid hr
  have HR2 := Lib.hid hr2
  have HL := Lib.hid hl
  have HZ := Lib.hid hz
  obtain ⟨a, cap, rfl, hcap, hm⟩ := RdR.form hr
  obtain ⟨a2, cap2, rfl, hcap2, hm2⟩ := RdR.form hr2
  clear hr hr2 hl hz
  go_enter Tryd.func16, Tryd.ntmps16
  go_wp2_with fail
  go_loopw [6, 7, 15] (EoRel w l z) (fun _ _ i _ => l.length - (intOf i).toNat)
  case atStart => exact ⟨0, by omega, rfl, World.ownsRow_nil _ _ _ _, rfl, G.refl _ _⟩
  case round =>
    obtain ⟨k, hk, rfl, hown, rfl, hG⟩ := hrel
    by_cases hlt : k < l.length
    · obtain ⟨⟨s, n⟩, hp⟩ : ∃ p, l[k]? = some p := ⟨_, List.getElem?_eq_getElem hlt⟩
      obtain ⟨bb, bo, rfl, -, -⟩ := RdR.elem shC_sz HR.out hG hp
      have HW := Lib.hid (shRow HR.out hG hp)
      have HSN := Lib.hid (show 0 ≤ n ∧ n ≤ 1000000000 from HL.out _ (List.mem_of_getElem? hp))
      have HTK := Lib.hid (take_sn hp)
      have HB := Lib.hid (exR_bnd (l := l.take k) (fun x hx => HL.out x (List.mem_of_mem_take hx)) HZ.out)
      have HLT := Lib.hid (show (l.take k).length ≤ 500 by rw [List.length_take]; omega)
      have HXL := Lib.hid (exL_len (l.take k) z)
      have HSL := Lib.hid (exL_snoc (l.take k) z (s, n))
      have HSR := Lib.hid (exR_snoc (l.take k) z (s, n))
      obtain ⟨R, hR⟩ : ∃ R, exR (l.take k) z = R := ⟨_, rfl⟩
      obtain ⟨X, hX⟩ : ∃ X, exL (l.take k) z = X := ⟨_, rfl⟩
      rw [hR] at HB HSR ⊢
      rw [hX] at HXL HSL hown
      have HK := Lib.hid hlt
      have hB5 : Bk (wr.alloc (.cells #[.string s, .int .i64 n] 46)) wr.heap.size 46 (shC (s, n)) := Bk.new wr 46 (shC (s, n))
      have hG5 : G w (wr.alloc (.cells #[.string s, .int .i64 n] 46)) none := hG.alloc (.cells (shC (s, n)) 46)
      have hown5 : OwnSh (wr.alloc (.cells #[.string s, .int .i64 n] 46)) w.heap.size u6 X := OwnX.alloc hown _
      have hne : some wr.heap.size ≠ u6.ownBlock := OwnX.ne hown (.inr (Nat.le_refl _))
      clear hR hX hp hG hown
      go_wp2_with (refine wpList_load_at rfl 46 _ rfl ⟨bb, bo + k * 2, none⟩ rfl #[.string s, .int .i64 n] _ HW.out Tryd.underlying46 rfl (sh_info (s, n)) ?_)
      clear HW
      generalize wr.alloc (.cells #[.string s, .int .i64 n] 46) = w5 at hB5 hG5 hown5 ⊢
      generalize wr.heap.size = g at hB5 hne ⊢
      go_loopw [10, 23] (EpRel w5 (s, n) z) (fun _ j _ => z.length - (intOf j).toNat)
      case atStart => exact ⟨0, by omega, rfl, rfl, G.refl _ _⟩
      case round =>
        obtain ⟨j, hj, rfl, rfl, hG6⟩ := hrel
        by_cases hj2 : j < z.length
        · obtain ⟨⟨t, u⟩, hq⟩ : ∃ p, z[j]? = some p := ⟨_, List.getElem?_eq_getElem hj2⟩
          obtain ⟨b2, o2, rfl, -, -⟩ := RdR.elem wvC_sz HR2.out (hG5.trans hG6) hq
          have HW2 := Lib.hid (wvRow HR2.out (hG5.trans hG6) hq)
          have HPT : Hid (payW (s, n) (z.take (j + 1)) = pyS s (payW (s, n) (z.take j)) (t, u)) := Lib.hid (payW_take hq)
          have hB7 := (hB5.quiet hG6).quiet ((G.refl wr none).alloc (.cells #[.string t, .int .i64 u] 82))
          have c0 : (wr.alloc (.cells #[.string t, .int .i64 u] 82)).cell? ⟨g, 0, none⟩ = some (.string s) := hB7.cell 0
          have hG7 := hG6.alloc (.cells #[.string t, .int .i64 u] 82)
          have HJ := Lib.hid hj2
          have hj5 : j < 500 := by omega
          obtain ⟨P, hP⟩ : ∃ P, payW (s, n) (z.take j) = P := ⟨_, rfl⟩
          rw [hP] at HPT ⊢
          clear hP hq hB7
          by_cases ht : t = s
          · subst ht
            have HF : Hid (payW (t, n) (z.take (j + 1)) = min P u) := Lib.hid (by rw [HPT.out, pyS, if_pos rfl])
            go_wp2_with (refine wpList_load_at rfl 82 _ rfl ⟨b2, o2 + j * 2, none⟩ rfl #[.string t, .int .i64 u] _ HW2.out Tryd.underlying82 rfl (wv_info (t, u)) ?_)
            go_roundw
            case rel => exact ⟨j + 1, by omega, by go_num, by rw [HF.out], hG7⟩
            case measure => have := HJ.out; simp [intOf]; omega
          · have HF : Hid (payW (s, n) (z.take (j + 1)) = P) := Lib.hid (by rw [HPT.out, pyS, if_neg ht])
            have hts : (t.toList == s.toList) = false := by
              cases h : t.toList == s.toList with
              | false => rfl
              | true => exact absurd (eqB_iff.1 h) ht
            go_wp2_with (refine wpList_load_at rfl 82 _ rfl ⟨b2, o2 + j * 2, none⟩ rfl #[.string t, .int .i64 u] _ HW2.out Tryd.underlying82 rfl (wv_info (t, u)) ?_)
            go_roundw
            case rel => exact ⟨j + 1, by omega, by go_num, by rw [HF.out], hG7⟩
            case measure => have := HJ.out; simp [intOf]; omega
        · obtain rfl : j = z.length := by omega
          rw [List.take_length]
          have HPB := Lib.hid (payW_bnd (s := (s, n)) HSN.out HZ.out)
          have hB6 := hB5.quiet hG6
          have c0 : wr.cell? ⟨g, 0, none⟩ = some (.string s) := hB6.cell 0
          have c1 : wr.cell? ⟨g, 1, none⟩ = some (.int .i64 n) := hB6.cell 1
          have hG6b := hG5.trans hG6
          have hown6 := OwnX.quiet hown5 hG6
          by_cases h0 : s = ⟨#[]⟩
          · subst h0
            have hw1 : IntKind.i64.wrap n = n := by have := HSN.out; rw [IntKind.wrap_i64]; omega
            have hw2 : IntKind.i64.wrap (R + n) = R + n := by have := HSN.out; have := HB.out; have := HLT.out; rw [IntKind.wrap_i64]; omega
            go_wp2_with fail
            go_roundw
            case rel => exact ⟨k + 1, (by have := HK.out; omega), by go_num, (by rw [HTK.out, HSL.out, if_pos rfl]; exact hown6), (by rw [HTK.out, HSR.out, payS, if_pos rfl, Int.sub_zero]), hG6b⟩
            case measure => have := HK.out; simp [intOf]; omega
          · have hze := isE_of (s := s) (by rcases Nat.eq_zero_or_pos s.size with q | q; exact absurd (empty_of q) h0; exact q)
            have HSR2 : Hid (exR (l.take k ++ [(s, n)]) z = R + (n - payW (s, n) z)) := Lib.hid (by rw [HSR.out, payS, if_neg h0])
            have HSL2 : Hid (exL (l.take k ++ [(s, n)]) z = X ++ [(s, payW (s, n) z)]) := Lib.hid (by rw [HSL.out, if_neg h0])
            obtain ⟨P, hP⟩ : ∃ P, payW (s, n) z = P := ⟨_, rfl⟩
            rw [hP] at HPB HSR2 HSL2 ⊢
            clear hP
            have hw1 : IntKind.i64.wrap (n - P) = n - P := by have := HSN.out; have := HPB.out; rw [IntKind.wrap_i64]; omega
            have hw2 : IntKind.i64.wrap (R + (n - P)) = R + (n - P) := by have := HSN.out; have := HPB.out; have := HB.out; have := HLT.out; rw [IntKind.wrap_i64]; omega
            have hownA := OwnX.alloc hown6 (.cells #[.string s, .int .i64 P] 46)
            have hob := OwnX.low hown6
            have hsz := hG6b.size
            have hlen : X.length ≤ 500 := by have := HXL.out; have := HLT.out; omega
            go_wp2_with (at_builtin; refine wpList_plain rfl fun K' hK' => wp_append_x sh_rowOk _ _ rfl w.heap.size u6 X rfl hownA wr.heap.size (s, P) rfl (Bk.new wr _ _) (by omega) (by simp; omega) ?_; intro v8 w8 hown8 hgrow; have c1b : w8.cell? ⟨g, 1, none⟩ = some (.int .i64 n) := ((hB6.alloc _).grown hgrow hne).cell 1; refine hK' _ _ ?_)
            go_roundw
            case rel => exact ⟨k + 1, (by have := HK.out; omega), by go_num, (by rw [HTK.out, HSL2.out]; exact hown8), (by rw [HTK.out, HSR2.out]), (hG6b.alloc _).other hgrow (fun r e => .inl (hob r e))⟩
            case measure => have := HK.out; simp [intOf]; omega
    · obtain rfl : k = l.length := by omega
      rw [List.take_length] at hown ⊢
      go_wp2_with fail
      go_ret2
      exact ⟨_, rfl, hown, hG⟩
end Go.Proofs.YtamoefnpfkcigaaDoor

/- Cents that are divided: the reference's check; the functions that Split hands on. Written by genspd.py. -/
namespace Go.Proofs.YtamoefnpfkcigaaDoor
open Go.RowKit

set_option maxRecDepth 100000 in
theorem in2_c (a lo hi : Int) (w : World) : Calls Tryd.prog 45 #[.int .i64 a, .int .i64 lo, .int .i64 hi] w fun e w' => e = .returned (.bool (inB a lo hi)) ∧ w = w' := by
  by_cases h1 : lo ≤ a
  · by_cases h2 : a ≤ hi
    · have HF : Hid (inB a lo hi = true) := Lib.hid (by simp [inB, h1, h2])
      go_enter Tryd.func45, Tryd.ntmps45
      go_wp2_with fail
      go_ret
      exact ⟨by rw [HF.out]; rfl, rfl⟩
    · have HF : Hid (inB a lo hi = false) := Lib.hid (by simp [inB, h2])
      go_enter Tryd.func45, Tryd.ntmps45
      go_wp2_with fail
      go_ret
      exact ⟨by rw [HF.out]; rfl, rfl⟩
  · have HF : Hid (inB a lo hi = false) := Lib.hid (by simp [inB, h1])
    go_enter Tryd.func45, Tryd.ntmps45
    go_wp2_with fail
    go_ret
    exact ⟨by rw [HF.out]; rfl, rfl⟩
set_option maxRecDepth 100000 in
set_option maxHeartbeats 4000000 in
theorem splitFault_c (c : Int) (v : Value) (ws : List Int) (w : World) (hr : RdI w v ws) (hn : ws.length ≤ 1000) :
    Calls Tryd.prog 9 #[.int .i64 c, v] w fun e w' => e = .returned (.int .i64 (spE c ws)) ∧ G w w' none := by
  have HR := Lib.hid hr
  obtain ⟨a, cap, rfl, hcap, hm⟩ := RdR.form hr
  clear hr
  have HE := Lib.hid (show spE c ws = if inB c 0 1000000000 = false then 1 else if 50 < ws.length then 2 else if spA ws = false then 1 else if ws.sum = 0 then 8 else 0 from rfl)
  generalize spE c ws = E at HE ⊢
  go_enter Tryd.func9, Tryd.ntmps9
  go_wp2_with fail
  refine (in2_c _ _ _ _).mono ?_; rintro e w1 ⟨rfl, rfl⟩
  have hG1 := G.refl w none
  cases k1 : inB c 0 1000000000 with
  | false =>
    have hE : E = 1 := by rw [HE.out, if_pos k1]
    subst hE
    clear HE k1
    go_wp2_with fail
    go_ret
    exact ⟨rfl, hG1⟩
  | true =>
    have HE1 : Hid (E = if 50 < ws.length then 2 else if spA ws = false then 1 else if ws.sum = 0 then 8 else 0) := Lib.hid (by rw [HE.out, if_neg (by simp [k1])])
    clear HE k1
    by_cases k2 : 50 < ws.length
    · have hE : E = 2 := by rw [HE1.out, if_pos k2]
      subst hE
      have k2' : (50 : Int) < (ws.length : Int) := by omega
      clear HE1 k2
      go_wp2_with fail
      go_ret
      exact ⟨rfl, hG1⟩
    · have HE2 : Hid (E = if spA ws = false then 1 else if ws.sum = 0 then 8 else 0) := Lib.hid (by rw [HE1.out, if_neg k2])
      have k2' : ¬ (50 : Int) < (ws.length : Int) := by omega
      clear HE1
      go_wp2_with fail
      go_loopw [5, 16] (CspRel w ws) (fun _ i _ => ws.length - (intOf i).toNat)
      case atStart => exact ⟨0, by omega, rfl, rfl, fun n hn => by simp at hn, hG1⟩
      case round =>
        clear hG1
        obtain ⟨k, hk, rfl, rfl, hall, hG⟩ := hrel
        by_cases hlt : k < ws.length
        · obtain ⟨p, hp⟩ : ∃ p, ws[k]? = some p := ⟨_, List.getElem?_eq_getElem hlt⟩
          obtain ⟨bb, bo, rfl, -, -⟩ := RdR.elem inC_sz HR.out hG hp
          have hc := RdR.cell inC_sz HR.out hG hp 0 (.int .i64 p) rfl
          simp only [Nat.add_zero, Nat.mul_one] at hc
          have HP := Lib.hid hp
          have HK := Lib.hid hlt
          have hsb := spA_bnd hall
          have hlen : ((ws.take k).length : Int) ≤ 1000 := by rw [List.length_take]; omega
          clear hp
          go_wp2_with fail
          refine (in2_c _ _ _ _).mono ?_; rintro e w' ⟨rfl, rfl⟩
          cases hb : inB p 0 5761440 with
          | false =>
            have hE : E = 1 := by rw [HE2.out, if_pos (spA_false HP.out hb)]
            subst hE
            clear HE2 hb
            go_wp2_with fail
            go_ret
            exact ⟨rfl, hG⟩
          | true =>
            have hpb : 0 ≤ p ∧ p ≤ 5761440 := by unfold inB at hb; simpa using hb
            have hw : IntKind.i64.wrap ((ws.take k).sum + p) = (ws.take k).sum + p := by rw [IntKind.wrap_i64]; omega
            have HT := Lib.hid (sum_take_succ ws k p HP.out)
            have HA := Lib.hid (take_mem HP.out hall hb)
            generalize (ws.take k).sum = SK at hw HT hsb ⊢
            clear hb hsb hlen
            go_wp2_with fail
            go_roundw
            case rel => exact ⟨k + 1, by omega, by go_num, by rw [HT.out], HA.out, hG⟩
            case measure => have := HK.out; simp [intOf]; omega
        · obtain rfl : k = ws.length := by omega
          rw [List.take_length] at hall ⊢
          have ha : spA ws = true := List.all_eq_true.2 hall
          have HE3 : Hid (E = if ws.sum = 0 then 8 else 0) := Lib.hid (by rw [HE2.out, if_neg (by simp [ha])])
          clear HE2 ha hall
          generalize ws.sum = SM at HE3 ⊢
          by_cases h0 : SM = 0
          · have hE : E = 8 := by rw [HE3.out, if_pos h0]
            subst hE
            subst h0
            clear HE3
            go_wp2_with fail
            go_ret
            exact ⟨rfl, hG⟩
          · have hE : E = 0 := by rw [HE3.out, if_neg h0]
            have h0' : (SM == 0) = false := by simpa using h0
            subst hE
            clear HE3 h0
            go_wp2_with fail
            go_ret
            exact ⟨rfl, hG⟩
theorem spE_ok {c : Int} {ws : List Int} (h : spE c ws = 0) : (0 ≤ c ∧ c ≤ 1000000000) ∧ ws.length ≤ 50 ∧ (∀ n ∈ ws, inB n 0 5761440 = true) ∧ ws.sum ≠ 0 := by
  unfold spE at h
  split at h
  · cases h
  · next h1 =>
    split at h
    · cases h
    · next h2 =>
      split at h
      · cases h
      · next h3 =>
        split at h
        · cases h
        · next h4 =>
          refine ⟨by have : inB c 0 1000000000 = true := by simpa using h1
                     unfold inB at this; simpa using this, by omega, ?_, h4⟩
          have h5 : spA ws = true := by simpa using h3
          exact List.all_eq_true.1 h5
/-- What is left over of a part. -/
def restI (c : Int) (ws : List Int) (i : Nat) : Int := c * (ws.getD i 0) % ws.sum
def ArgsI (w : World) (gC gW gS : Nat) (c s : Int) (v : Value) : Prop := Bk w gC 3 #[.int .i64 c] ∧ Bk w gW 22 #[v] ∧ Bk w gS 3 #[.int .i64 s]
set_option maxRecDepth 100000 in
set_option maxHeartbeats 4000000 in
theorem rest_c (c : Int) (ws : List Int) (v : Value) (i : Nat) (gC gW gS : Nat) (w : World) (he : spE c ws = 0) (hi : i < ws.length) (hC : Bk w gC 3 #[.int .i64 c]) (hW : Bk w gW 22 #[v]) (hS : Bk w gS 3 #[.int .i64 ws.sum]) (hr : RdI w v ws) :
    Calls Tryd.prog 41 #[.int .i64 i, .pointer (some ⟨gC, 0, none⟩), .pointer (some ⟨gW, 0, none⟩), .pointer (some ⟨gS, 0, none⟩)] w fun e w' => e = .returned (.int .i64 (restI c ws i)) ∧ G w w' none := by
  obtain ⟨p, hp⟩ : ∃ p, ws[i]? = some p := ⟨_, List.getElem?_eq_getElem hi⟩
  obtain ⟨h1, h2, h3, h4⟩ := spE_ok he
  have hpb : 0 ≤ p ∧ p ≤ 5761440 := by have := h3 p (List.mem_of_getElem? hp); unfold inB at this; simpa using this
  have hR : restI c ws i = c * p % ws.sum := by unfold restI; rw [List.getD_eq_getElem?_getD, hp]; rfl
  obtain ⟨a, cap, rfl, hcap, hm⟩ := RdR.form hr
  obtain ⟨bb, bo, rfl, -, -⟩ := RdR.elem inC_sz hr (G.refl w none) hp
  have hc := RdR.cell inC_sz hr (G.refl w none) hp 0 (.int .i64 p) rfl
  simp only [Nat.add_zero, Nat.mul_one] at hc
  have hsb := (spA_bnd h3)
  have hp1 : 0 ≤ c * p := Int.mul_nonneg h1.1 hpb.1
  have hp2 : c * p ≤ 1000000000 * 5761440 := Int.mul_le_mul h1.2 hpb.2 hpb.1 (by omega)
  have hin : (i : Int) < (ws.length : Int) := by omega
  rw [hR]
  clear hR hr hp h3 he
  generalize ws.sum = s at hS h4 hsb ⊢
  have hs0 : 0 < s := by omega
  obtain ⟨m, hm2⟩ : ∃ m, c * p = m := ⟨_, rfl⟩
  have hw1 : IntKind.i64.wrap (c * p) = m := by rw [hm2, IntKind.wrap_i64]; omega
  rw [hm2] at hp1 hp2
  rw [hm2]
  have htm : m.tmod s = m % s := Int.tmod_eq_emod_of_nonneg hp1
  have hmw : IntKind.i64.wrap (m % s) = m % s := by have q1 := Int.emod_nonneg m (show s ≠ 0 by omega); have q2 := Int.emod_lt_of_pos m hs0; rw [IntKind.wrap_i64]; omega
  have hsn : ¬ s = 0 := by omega
  have hG := (G.refl w none).drew
  clear hm2 h1 h2 h4 hsb hs0
  go_enter Tryd.func41, Tryd.ntmps41
  go_upto_region 1 with fail
  refine wp_region_held_drew (S := (fun w' : World => w'.cell? ⟨gC, 0, none⟩ = some (.int .i64 c) ∧ w'.cell? ⟨gW, 0, none⟩ = some (.slice (some ⟨bb, bo, none⟩) ws.length cap) ∧ w'.cell? ⟨gS, 0, none⟩ = some (.int .i64 s) ∧ w'.cell? ⟨bb, bo + i, none⟩ = some (.int .i64 p))) (by kernel_rfl) ?_ (fun hHeld => ?_)
  · exact ⟨hC.cell 0, hW.cell 0, hS.cell 0, hc⟩
  refine wpAnyH_take (i := 0) (oi := { dst := some 6, op := Op.load 3 (Operand.tmp 1), type := 3, pos := _, after := #[], guard := none }) (v := ?_) rfl (by kernel_rfl) (by kernel_rfl) (by kernel_rfl) (fun _ _ _ h => h) (Or.inl ⟨by rfl, ?_⟩) (by assumption) ?_
  rotate_left
  · (intro w hSw; obtain ⟨z0, z1, z2, z3⟩ := hSw; (go_simp <;> with_reducible rfl))
  try simp only [Act.put, List.setIfInBounds_toArray, List.set_cons_zero, List.set_cons_succ]
  refine wpAnyH_take (i := 1) (oi := { dst := some 7, op := Op.load 22 (Operand.tmp 2), type := 22, pos := _, after := #[], guard := none }) (v := ?_) rfl (by kernel_rfl) (by kernel_rfl) (by kernel_rfl) (fun _ _ _ h => h) (Or.inl ⟨by rfl, ?_⟩) (by assumption) ?_
  rotate_left
  · (intro w hSw; obtain ⟨z0, z1, z2, z3⟩ := hSw; (go_simp <;> with_reducible rfl))
  try simp only [Act.put, List.setIfInBounds_toArray, List.set_cons_zero, List.set_cons_succ]
  refine wpAnyH_take (i := 2) (oi := { dst := some 8, op := Op.move (Operand.tmp 0), type := 3, pos := _, after := #[], guard := none }) (v := ?_) rfl (by kernel_rfl) (by kernel_rfl) (by kernel_rfl) (fun _ _ _ h => h) (Or.inl ⟨by rfl, ?_⟩) (by assumption) ?_
  rotate_left
  · (intro w hSw; obtain ⟨z0, z1, z2, z3⟩ := hSw; (go_simp <;> with_reducible rfl))
  try simp only [Act.put, List.setIfInBounds_toArray, List.set_cons_zero, List.set_cons_succ]
  refine wpAnyH_take (i := 3) (oi := { dst := some 9, op := Op.indexAddr 22 (Operand.tmp 7) (Operand.tmp 8), type := 0, pos := _, after := #[{ on := 1, ground := Ground.data }, { on := 2, ground := Ground.data }], guard := none }) (v := ?_) rfl (by kernel_rfl) (by kernel_rfl) (by kernel_rfl) (fun _ _ _ h => h) (Or.inl ⟨by rfl, ?_⟩) (by assumption) ?_
  rotate_left
  · (intro w hSw; obtain ⟨z0, z1, z2, z3⟩ := hSw; (go_simp <;> with_reducible rfl))
  try simp only [Act.put, List.setIfInBounds_toArray, List.set_cons_zero, List.set_cons_succ]
  refine wpAnyH_take (i := 4) (oi := { dst := some 10, op := Op.load 3 (Operand.tmp 9), type := 3, pos := _, after := #[{ on := 3, ground := Ground.data }], guard := none }) (v := ?_) rfl (by kernel_rfl) (by kernel_rfl) (by kernel_rfl) (fun _ _ _ h => h) (Or.inl ⟨by rfl, ?_⟩) (by assumption) ?_
  rotate_left
  · (intro w hSw; obtain ⟨z0, z1, z2, z3⟩ := hSw; (go_simp <;> with_reducible rfl))
  try simp only [Act.put, List.setIfInBounds_toArray, List.set_cons_zero, List.set_cons_succ]
  refine wpAnyH_take (i := 5) (oi := { dst := some 11, op := Op.binOp BinOp.mul 3 (Operand.tmp 6) (Operand.tmp 10) 3, type := 3, pos := _, after := #[{ on := 0, ground := Ground.data }, { on := 4, ground := Ground.data }], guard := none }) (v := ?_) rfl (by kernel_rfl) (by kernel_rfl) (by kernel_rfl) (fun _ _ _ h => h) (Or.inl ⟨by rfl, ?_⟩) (by assumption) ?_
  rotate_left
  · (intro w hSw; obtain ⟨z0, z1, z2, z3⟩ := hSw; (go_simp <;> with_reducible rfl))
  try simp only [Act.put, List.setIfInBounds_toArray, List.set_cons_zero, List.set_cons_succ]
  refine wpAnyH_take (i := 6) (oi := { dst := some 12, op := Op.load 3 (Operand.tmp 3), type := 3, pos := _, after := #[], guard := none }) (v := ?_) rfl (by kernel_rfl) (by kernel_rfl) (by kernel_rfl) (fun _ _ _ h => h) (Or.inl ⟨by rfl, ?_⟩) (by assumption) ?_
  rotate_left
  · (intro w hSw; obtain ⟨z0, z1, z2, z3⟩ := hSw; (go_simp <;> with_reducible rfl))
  try simp only [Act.put, List.setIfInBounds_toArray, List.set_cons_zero, List.set_cons_succ]
  refine wpAnyH_take (i := 7) (oi := { dst := some 13, op := Op.binOp BinOp.rem 3 (Operand.tmp 11) (Operand.tmp 12) 3, type := 3, pos := _, after := #[{ on := 5, ground := Ground.data }, { on := 6, ground := Ground.data }], guard := none }) (v := ?_) rfl (by kernel_rfl) (by kernel_rfl) (by kernel_rfl) (fun _ _ _ h => h) (Or.inl ⟨by rfl, ?_⟩) (by assumption) ?_
  rotate_left
  · (intro w hSw; obtain ⟨z0, z1, z2, z3⟩ := hSw; (go_simp <;> with_reducible rfl))
  try simp only [Act.put, List.setIfInBounds_toArray, List.set_cons_zero, List.set_cons_succ]
  refine wpAnyH_take (i := 8) (oi := { dst := some 5, op := Op.assign (Operand.tmp 13), type := 3, pos := _, after := #[{ on := 7, ground := Ground.data }, { on := 0, ground := Ground.phase }, { on := 1, ground := Ground.phase }, { on := 2, ground := Ground.phase }, { on := 3, ground := Ground.phase }, { on := 4, ground := Ground.phase }, { on := 5, ground := Ground.phase }, { on := 6, ground := Ground.phase }, { on := 7, ground := Ground.phase }], guard := none }) (v := ?_) rfl (by kernel_rfl) (by kernel_rfl) (by kernel_rfl) (fun _ _ _ h => h) (Or.inl ⟨by rfl, ?_⟩) (by assumption) ?_
  rotate_left
  · (intro w hSw; obtain ⟨z0, z1, z2, z3⟩ := hSw; (go_simp <;> with_reducible rfl))
  try simp only [Act.put, List.setIfInBounds_toArray, List.set_cons_zero, List.set_cons_succ]
  refine wpAnyH_done (by kernel_rfl) ?_ _
  go_wp2_with fail
  go_ret
  exact ⟨rfl, hG⟩
end Go.Proofs.YtamoefnpfkcigaaDoor

/- The reference's SharesFault. Written by gensht.py. -/
namespace Go.Proofs.YtamoefnpfkcigaaDoor
open Go.RowKit

def ssE (l : List Sh) (z : List Wv) : Int := if shE l = 0 then wvE z else shE l
set_option maxRecDepth 100000 in
set_option maxHeartbeats 4000000 in
theorem sharesFault_c (v v2 : Value) (l : List Sh) (z : List Wv) (w : World) (hr : RdR w 2 shC v l) (hl : ShOk l) (hn : l.length ≤ 1000) (hr2 : RdR w 2 wvC v2 z) (hz2 : WvOk z) (hn2 : z.length ≤ 1000) :
    Calls Tryd.prog 14 #[v, v2] w fun e w' => e = .returned (.int .i64 (ssE l z)) ∧ G w w' none := by
  have HR2 := Lib.hid hr2
  obtain ⟨a2, cap2, rfl, hcap2, hm2⟩ := RdR.form hr2
  clear hr2
  have HR := Lib.hid hr
  obtain ⟨a, cap, rfl, hcap, hm⟩ := RdR.form hr
  clear hr
  by_cases h30 : 50 < l.length
  · have H := Lib.hid (show shE l = 2 by simp [shE, h30])
    go_enter Tryd.func14, Tryd.ntmps14
    go_wp2_with fail
    go_ret
    exact ⟨by simp [ssE, H.out], G.refl _ _⟩
  · have H := Lib.hid (show shE l = shErr none l by simp [shE, h30])
    go_enter Tryd.func14, Tryd.ntmps14
    go_wp2_with fail
    go_loopw [15] (ShRel w l) (fun i _ => l.length - (intOf i).toNat)
    case atStart => exact ⟨0, by omega, rfl, rfl, G.refl _ _⟩
    case round =>
      obtain ⟨k, hkl, rfl, heq, hG⟩ := hrel
      have HE := Lib.hid heq
      clear heq
      by_cases hk : k < l.length
      · obtain ⟨p, hp⟩ : ∃ p, l[k]? = some p := ⟨_, List.getElem?_eq_getElem hk⟩
        have hdrop : l.drop k = p :: l.drop (k + 1) := by rw [List.drop_eq_getElem_cons hk, ← (List.getElem?_eq_some_iff.1 hp).2]
        have hs1 := hl p (List.mem_of_getElem? hp)
        unfold Small at hs1
        obtain ⟨s, n⟩ := p
        obtain ⟨bb, bo, rfl, hbb, _⟩ := RdR.elem shC_sz HR.out hG hp
        have HW := Lib.hid (shRow HR.out hG hp)
        have HP := Lib.hid hp
        have HS : Hid (shErr (prevAt l k) (l.drop k) = if shK (s, n) = false then 5 else if shAfter (prevAt l k) (s, n) = true then 7 else if inB n 0 1000000000 = false then 1 else shErr (some (s, n)) (l.drop (k + 1))) := Lib.hid (by rw [hdrop]; rfl)
        have hB5 : Bk (wr.alloc (.cells #[.string s, .int .i64 n] 46)) wr.heap.size 46 (shC (s, n)) := Bk.new wr 46 (shC (s, n))
        have hG5 : G w (wr.alloc (.cells #[.string s, .int .i64 n] 46)) none := hG.alloc (.cells (shC (s, n)) 46)
        clear hdrop hp hG
        by_cases h0 : s = ⟨#[]⟩
        · subst h0
          have HKK : Hid (shK (⟨#[]⟩, n) = true) := Lib.hid rfl
          go_wp2_with (refine wpList_load_at rfl 46 _ rfl ⟨bb, bo + k * 2, none⟩ rfl #[.string ⟨#[]⟩, .int .i64 n] _ HW.out Tryd.underlying46 rfl (sh_info (⟨#[]⟩, n)) ?_)
          clear HW
          generalize wr.alloc (.cells #[.string ⟨#[]⟩, .int .i64 n] 46) = w5 at hB5 hG5 ⊢
          generalize wr.heap.size = g at hB5 ⊢
          have c0 : w5.cell? ⟨g, 0, none⟩ = some (.string ⟨#[]⟩) := hB5.cell 0
          have HS2 : Hid (shErr none l = if shAfter (prevAt l k) (⟨#[]⟩, n) = true then 7 else if inB n 0 1000000000 = false then 1 else shErr (some (⟨#[]⟩, n)) (l.drop (k + 1))) := Lib.hid (by rw [HE.out, HS.out, if_neg (by rw [HKK.out]; decide)])
          clear HS HE
          cases k with
          | zero =>
            have HT : Hid (shErr none l = if inB n 0 1000000000 = false then 1 else shErr (some (⟨#[]⟩, n)) (l.drop (0 + 1))) := Lib.hid (by rw [HS2.out, if_neg (by simp [prevAt, shAfter])])
            clear HS2
            go_quiet (fail)
            have hGq := hG5.drewN nq
            have hBq := hB5.quiet ((G.refl w5 none).drewN nq)
            have e1 : (w5.drewN nq).cell? ⟨g, 1, none⟩ = some (.int .i64 n) := hBq.cell 1
            go_wp2_with fail
            refine (in2_c n 0 1000000000 _).mono ?_; rintro e w6 ⟨rfl, rfl⟩
            have hG6 := hGq
            cases hn2 : inB n 0 1000000000 with
            | false =>
              have HF : Hid (shE l = 1) := Lib.hid (by rw [H.out, HT.out, if_pos hn2])
              clear hn2
              go_wp2_with fail
              go_ret
              exact ⟨by simp [ssE, HF.out], hG6⟩
            | true =>
              have HF : Hid (shErr none l = shErr (prevAt l (0 + 1)) (l.drop (0 + 1))) := Lib.hid (by rw [HT.out, if_neg (by simp [hn2]), prevAt_succ l (0) (⟨#[]⟩, n) HP.out])
              clear hn2
              go_wp2_with fail
              go_roundw
              case rel => exact ⟨0 + 1, by omega, by go_num, HF.out, hG6⟩
              case measure => simp [intOf]; omega
          | succ m =>
            obtain ⟨q, hq2⟩ : ∃ q, l[m]? = some q := ⟨_, List.getElem?_eq_getElem (by omega)⟩
            obtain ⟨t, u⟩ := q
            have HA : Hid (shAfter (prevAt l (m + 1)) (⟨#[]⟩, n) = leB ⟨#[]⟩ t) := Lib.hid (by rw [prevAt_succ l m (t, u) hq2]; rfl)
            have d0 := RdR.cell shC_sz HR.out hG5 hq2 0 (.string t) rfl
            have hsub : IntKind.i64.wrap (((m + 1 : Nat) : Int) - 1) = (m : Int) := by rw [show ((m + 1 : Nat) : Int) - 1 = (m : Int) by omega]; rw [IntKind.wrap_i64]; omega
            have hsub2 : IntKind.i64.wrap (m : Int) = (m : Int) := by rw [IntKind.wrap_i64]; omega
            have hsub3 : IntKind.i64.wrap ((m : Int) + 1 - 1) = (m : Int) := by rw [IntKind.wrap_i64]; omega
            have hm0 : (0 : Int) ≤ (m : Int) := Int.natCast_nonneg m
            have hml : (m : Int) < (l.length : Int) := by omega
            simp only [Nat.add_zero] at d0
            clear hq2
            cases hle : leB ⟨#[]⟩ t with
            | true =>
              have HF : Hid (shE l = 7) := Lib.hid (by rw [H.out, HS2.out, if_pos (by rw [HA.out, hle])])
              clear hle
              have hle2 : (Op.bytesLess [] t.toList || t.toList.isEmpty) = true := by cases t.toList <;> simp [Op.bytesLess]
              go_quiet (fail)
              have hGq := hG5.drewN nq
              go_wp2_with fail
              go_ret
              exact ⟨by simp [ssE, HF.out], hGq⟩
            | false => exact absurd (leB_nil t) (by rw [hle]; decide)
        · have hk0 : shK (s, n) = keyB s := by simp [shK, h0]
          have HK0 := Lib.hid hk0
          have hz := isE_of (s := s) (by rcases Nat.eq_zero_or_pos s.size with q | q; exact absurd (empty_of q) h0; exact q)
          clear hk0
          go_wp2_with (refine wpList_load_at rfl 46 _ rfl ⟨bb, bo + k * 2, none⟩ rfl #[.string s, .int .i64 n] _ HW.out Tryd.underlying46 rfl (sh_info (s, n)) ?_)
          clear HW
          generalize wr.alloc (.cells #[.string s, .int .i64 n] 46) = w0 at hB5 hG5 ⊢
          generalize wr.heap.size = g at hB5 ⊢
          refine (rkey_c _ _ hs1).mono ?_; rintro e w5 ⟨rfl, hGk⟩
          have hB5 := hB5.quiet hGk
          have hG5 := hG5.trans hGk
          clear hGk
          cases hkb : keyB s with
          | false =>
            have HF : Hid (shE l = 5) := Lib.hid (by rw [H.out, HE.out, HS.out, if_pos (by rw [HK0.out, hkb])])
            clear hkb
            go_wp2_with fail
            go_ret
            exact ⟨by simp [ssE, HF.out], hG5⟩
          | true =>
            have HKK : Hid (shK (s, n) = true) := Lib.hid (by rw [HK0.out, hkb])
            clear hkb
            go_wp2_with fail
            have c0 : w5.cell? ⟨g, 0, none⟩ = some (.string s) := hB5.cell 0
            have HS2 : Hid (shErr none l = if shAfter (prevAt l k) (s, n) = true then 7 else if inB n 0 1000000000 = false then 1 else shErr (some (s, n)) (l.drop (k + 1))) := Lib.hid (by rw [HE.out, HS.out, if_neg (by rw [HKK.out]; decide)])
            clear HS HE
            cases k with
            | zero =>
              have HT : Hid (shErr none l = if inB n 0 1000000000 = false then 1 else shErr (some (s, n)) (l.drop (0 + 1))) := Lib.hid (by rw [HS2.out, if_neg (by simp [prevAt, shAfter])])
              clear HS2
              go_quiet (fail)
              have hGq := hG5.drewN nq
              have hBq := hB5.quiet ((G.refl w5 none).drewN nq)
              have e1 : (w5.drewN nq).cell? ⟨g, 1, none⟩ = some (.int .i64 n) := hBq.cell 1
              go_wp2_with fail
              refine (in2_c n 0 1000000000 _).mono ?_; rintro e w6 ⟨rfl, rfl⟩
              have hG6 := hGq
              cases hn2 : inB n 0 1000000000 with
              | false =>
                have HF : Hid (shE l = 1) := Lib.hid (by rw [H.out, HT.out, if_pos hn2])
                clear hn2
                go_wp2_with fail
                go_ret
                exact ⟨by simp [ssE, HF.out], hG6⟩
              | true =>
                have HF : Hid (shErr none l = shErr (prevAt l (0 + 1)) (l.drop (0 + 1))) := Lib.hid (by rw [HT.out, if_neg (by simp [hn2]), prevAt_succ l (0) (s, n) HP.out])
                clear hn2
                go_wp2_with fail
                go_roundw
                case rel => exact ⟨0 + 1, by omega, by go_num, HF.out, hG6⟩
                case measure => simp [intOf]; omega
            | succ m =>
              obtain ⟨q, hq2⟩ : ∃ q, l[m]? = some q := ⟨_, List.getElem?_eq_getElem (by omega)⟩
              obtain ⟨t, u⟩ := q
              have HA : Hid (shAfter (prevAt l (m + 1)) (s, n) = leB s t) := Lib.hid (by rw [prevAt_succ l m (t, u) hq2]; rfl)
              have d0 := RdR.cell shC_sz HR.out hG5 hq2 0 (.string t) rfl
              have hsub : IntKind.i64.wrap (((m + 1 : Nat) : Int) - 1) = (m : Int) := by rw [show ((m + 1 : Nat) : Int) - 1 = (m : Int) by omega]; rw [IntKind.wrap_i64]; omega
              have hsub2 : IntKind.i64.wrap (m : Int) = (m : Int) := by rw [IntKind.wrap_i64]; omega
              have hsub3 : IntKind.i64.wrap ((m : Int) + 1 - 1) = (m : Int) := by rw [IntKind.wrap_i64]; omega
              have hm0 : (0 : Int) ≤ (m : Int) := Int.natCast_nonneg m
              have hml : (m : Int) < (l.length : Int) := by omega
              simp only [Nat.add_zero] at d0
              clear hq2
              cases hle : leB s t with
              | true =>
                have HF : Hid (shE l = 7) := Lib.hid (by rw [H.out, HS2.out, if_pos (by rw [HA.out, hle])])
                unfold leB at hle
                go_quiet (fail)
                have hGq := hG5.drewN nq
                go_wp2_with fail
                go_ret
                exact ⟨by simp [ssE, HF.out], hGq⟩
              | false =>
                have HT : Hid (shErr none l = if inB n 0 1000000000 = false then 1 else shErr (some (s, n)) (l.drop (m + 1 + 1))) := Lib.hid (by rw [HS2.out, if_neg (by rw [HA.out, hle]; decide)])
                clear HS2 HA
                unfold leB at hle
                go_quiet (fail)
                have hGq := hG5.drewN nq
                have hBq := hB5.quiet ((G.refl w5 none).drewN nq)
                have e1 : (w5.drewN nq).cell? ⟨g, 1, none⟩ = some (.int .i64 n) := hBq.cell 1
                go_wp2_with fail
                refine (in2_c n 0 1000000000 _).mono ?_; rintro e w6 ⟨rfl, rfl⟩
                have hG6 := hGq
                cases hn2 : inB n 0 1000000000 with
                | false =>
                  have HF : Hid (shE l = 1) := Lib.hid (by rw [H.out, HT.out, if_pos hn2])
                  clear hn2
                  go_wp2_with fail
                  go_ret
                  exact ⟨by simp [ssE, HF.out], hG6⟩
                | true =>
                  have HF : Hid (shErr none l = shErr (prevAt l (m + 1 + 1)) (l.drop (m + 1 + 1))) := Lib.hid (by rw [HT.out, if_neg (by simp [hn2]), prevAt_succ l (m + 1) (s, n) HP.out])
                  clear hn2
                  go_wp2_with fail
                  go_roundw
                  case rel => exact ⟨m + 1 + 1, by omega, by go_num, HF.out, hG6⟩
                  case measure => simp [intOf]; omega
      · obtain rfl : k = l.length := by omega
        have HZ : Hid (shE l = 0) := Lib.hid (by rw [H.out, HE.out, List.drop_length]; rfl)
        by_cases h31 : 500 < z.length
        · have H2 := Lib.hid (show wvE z = 2 by simp [wvE, h31])
          go_wp2_with fail
          go_ret
          exact ⟨by simp [ssE, HZ.out, H2.out], hG⟩
        · have H2 := Lib.hid (show wvE z = wvErr ⟨#[]⟩ z by simp [wvE, h31])
          go_wp2_with fail
          go_loopw [7, 55] (WvRel w z) (fun _ i _ => z.length - (intOf i).toNat)
          case atStart => exact ⟨0, ⟨#[]⟩, by omega, rfl, rfl, rfl, hG⟩
          case round =>
            obtain ⟨k, b, hkl, rfl, rfl, heq, hG⟩ := hrel
            have HE := Lib.hid heq
            clear heq
            by_cases hk : k < z.length
            · obtain ⟨p, hp⟩ : ∃ p, z[k]? = some p := ⟨_, List.getElem?_eq_getElem hk⟩
              have hdrop : z.drop k = p :: z.drop (k + 1) := by rw [List.drop_eq_getElem_cons hk, ← (List.getElem?_eq_some_iff.1 hp).2]
              have hs1 := hz2 p (List.mem_of_getElem? hp)
              obtain ⟨bb, bo, rfl, -, -⟩ := RdR.elem wvC_sz HR2.out hG hp
              have HW := Lib.hid (wvRow HR2.out hG hp)
              unfold Small at hs1
              have HS : Hid (wvErr b (z.drop k) = if keyB p.1 = false then 5 else if leB p.1 b = true then 7 else if wvT p = false then 1 else wvErr p.1 (z.drop (k + 1))) := Lib.hid (by rw [hdrop]; rfl)
              have HK := Lib.hid hk
              have hB5 : Bk (wr.alloc (.cells #[.string p.1, .int .i64 p.2] 82)) wr.heap.size 82 (wvC p) := Bk.new _ _ _
              have hG5 := hG.alloc (.cells #[.string p.1, .int .i64 p.2] 82)
              clear hdrop hp hG
              go_wp2_with (refine wpList_load_at rfl 82 _ rfl ⟨bb, bo + k * 2, none⟩ rfl #[.string p.1, .int .i64 p.2] _ HW.out Tryd.underlying82 rfl (wv_info p) ?_)
              generalize wr.alloc (.cells #[.string p.1, .int .i64 p.2] 82) = w5 at hB5 hG5 ⊢
              generalize wr.heap.size = g at hB5 ⊢
              refine (rkey_c _ _ hs1).mono ?_; rintro e w6 ⟨rfl, hGk⟩
              have hB5 := hB5.quiet hGk
              have hG5 := hG5.trans hGk
              clear hGk
              have c0 : w6.cell? ⟨g, 0, none⟩ = some (.string p.1) := hB5.cell 0
              have c1 : w6.cell? ⟨g, 1, none⟩ = some (.int .i64 p.2) := hB5.cell 1
              cases hkb : keyB p.1 with
              | false =>
                have HF : Hid (wvE z = 5) := Lib.hid (by rw [H2.out, HE.out, HS.out, if_pos hkb])
                clear hkb
                go_wp2_with fail
                go_ret
                exact ⟨by simp [ssE, HZ.out, HF.out], hG5⟩
              | true =>
                have HKB := Lib.hid hkb
                clear hkb
                cases hle : leB p.1 b with
                | true =>
                  have HF : Hid (wvE z = 7) := Lib.hid (by rw [H2.out, HE.out, HS.out, if_neg (by simp [HKB.out]), if_pos hle])
                  unfold leB at hle
                  go_wp2_with fail
                  go_ret
                  exact ⟨by simp [ssE, HZ.out, HF.out], hG5⟩
                | false =>
                  have HS2 : Hid (wvErr ⟨#[]⟩ z = if wvT p = false then 1 else wvErr p.1 (z.drop (k + 1))) := Lib.hid (by rw [HE.out, HS.out, if_neg (by simp [HKB.out]), if_neg (by simp [hle])])
                  unfold leB at hle
                  clear HS HE
                  go_wp2_with fail
                  refine (in2_c p.2 0 1000000000 _).mono ?_; rintro e w' ⟨rfl, rfl⟩
                  cases k0 : inB p.2 0 1000000000 with
                  | false =>
                    have HF : Hid (wvE z = 1) := Lib.hid (by rw [H2.out, HS2.out, if_pos (by simp [wvT, k0])])
                    clear k0
                    go_wp2_with fail
                    go_ret
                    exact ⟨by simp [ssE, HZ.out, HF.out], hG5⟩
                  | true =>
                    have K0 := Lib.hid k0
                    clear k0
                    have HF : Hid (wvErr ⟨#[]⟩ z = wvErr p.1 (z.drop (k + 1))) := Lib.hid (by rw [HS2.out, if_neg (by simp [wvT, K0.out])])
                    go_wp2_with fail
                    go_roundw
                    case rel => exact ⟨k + 1, p.1, by omega, by go_num, rfl, HF.out, hG5⟩
                    case measure => have := HK.out; simp [intOf]; omega
            · obtain rfl : k = z.length := by omega
              have HE2 : Hid (wvE z = 0) := Lib.hid (by rw [H2.out, HE.out, List.drop_length]; rfl)
              go_wp2_with fail
              go_ret
              exact ⟨by simp [ssE, HZ.out, HE2.out], hG⟩
end Go.Proofs.YtamoefnpfkcigaaDoor

/- Excess: what each hire pays at most, as a map. Mathematics. -/
namespace Go.Proofs.YtamoefnpfkcigaaDoor
open Go.RowKit

theorem wv_rise (b : ByteArray) (l : List Wv) (h : wvErr b l = 0) : (Rise (l.map (·.1)) ∧ ∀ p ∈ l, cmpI b p.1 < 0) ∧ MoOk l := by
  induction l generalizing b with
  | nil => exact ⟨⟨List.Pairwise.nil, fun p hp => by cases hp⟩, fun p hp => by cases hp⟩
  | cons p r ih =>
    unfold wvErr at h
    split at h
    · omega
    · split at h
      · omega
      · rename_i hle
        split at h
        · omega
        · rename_i ht
          obtain ⟨⟨i1, i2⟩, i3⟩ := ih p.1 h
          have hb : cmpI b p.1 < 0 := by
            rw [leB_cmp] at hle
            have h1 := cmpI_neg p.1 b
            simp at hle
            omega
          refine ⟨⟨List.pairwise_cons.2 ⟨fun s hs => ?_, i1⟩, fun q hq => ?_⟩, fun q hq => ?_⟩
          · obtain ⟨q, hq, rfl⟩ := List.mem_map.1 hs
            exact i2 q hq
          · rcases List.mem_cons.1 hq with rfl | hq
            · exact hb
            · exact cmpI_trans hb (i2 q hq)
          · rcases List.mem_cons.1 hq with rfl | hq
            · unfold wvT inB at ht
              simp at ht
              omega
            · exact i3 q hq
def moS : List Wv → ByteArray → Option Int
  | [], _ => none
  | p :: r, s => match moS r s with | some u => some u | none => if s = p.1 then some p.2 else none
def moF (f : Fn) : List Wv → Fn
  | [] => f
  | p :: r => moF (fput f p.1 (.int .i64 p.2)) r
def moC (c : Nat) (f : Fn) : List Wv → Nat
  | [] => c
  | p :: r => moC (cput c f p.1) (fput f p.1 (.int .i64 p.2)) r
theorem moS_cons (p : Wv) (r : List Wv) (s : ByteArray) : moS (p :: r) s = match moS r s with | some u => some u | none => if s = p.1 then some p.2 else none := rfl
theorem moF_eq (f : Fn) (l : List Wv) (s : ByteArray) : moF f l s = match moS l s with | some u => some (.int .i64 u) | none => f s := by
  induction l generalizing f with
  | nil => rfl
  | cons p r ih =>
    show moF (fput f p.1 (.int .i64 p.2)) r s = _
    rw [ih, moS_cons]
    cases h : moS r s with
    | some u => rfl
    | none =>
      simp only [fput]
      by_cases e : s = p.1
      · simp [e]
      · simp [e]
theorem moF_at (l : List Wv) (s : ByteArray) : moF eF l s = (moS l s).map (fun u => .int .i64 u) := by
  rw [moF_eq]
  unfold eF
  cases moS l s <;> rfl
theorem moC_le (c : Nat) (f : Fn) (l : List Wv) : moC c f l ≤ c + l.length := by
  induction l generalizing c f with
  | nil => simp [moC]
  | cons p r ih =>
    have h1 := ih (cput c f p.1) (fput f p.1 (.int .i64 p.2))
    have h2 : cput c f p.1 ≤ c + 1 := by unfold cput; split <;> omega
    show moC (cput c f p.1) (fput f p.1 (.int .i64 p.2)) r ≤ _
    simp only [List.length_cons]
    omega
theorem moF_snoc (f : Fn) (l : List Wv) (p : Wv) : moF f (l ++ [p]) = fput (moF f l) p.1 (.int .i64 p.2) := by
  induction l generalizing f with
  | nil => rfl
  | cons q r ih => exact ih _
theorem moC_snoc (c : Nat) (f : Fn) (l : List Wv) (p : Wv) : moC c f (l ++ [p]) = cput (moC c f l) (moF f l) p.1 := by
  induction l generalizing c f with
  | nil => rfl
  | cons q r ih => exact ih _ _
theorem moS_bnd {l : List Wv} (hl : MoOk l) {s : ByteArray} {u : Int} (h : moS l s = some u) : 0 ≤ u ∧ u ≤ 1000000000 := by
  induction l with
  | nil => cases h
  | cons p r ih =>
    rw [moS_cons] at h
    cases hr : moS r s with
    | some v =>
      rw [hr] at h
      exact ih (fun x hx => hl x (List.mem_cons_of_mem _ hx)) (by rw [hr]; exact h)
    | none =>
      rw [hr] at h
      dsimp only at h
      split at h
      · cases h
        exact hl p (List.mem_cons_self ..)
      · cases h
theorem pay_miss (s : ByteArray) (a : Int) (l : List Wv) (h : s ∉ l.map (·.1)) : l.foldl (pyS s) a = a := by
  induction l generalizing a with
  | nil => rfl
  | cons p r ih =>
    rw [List.map_cons, List.mem_cons, not_or] at h
    rw [List.foldl_cons, pyS, if_neg (fun e => h.1 e.symm)]
    exact ih a h.2
theorem moS_miss (s : ByteArray) (l : List Wv) (h : s ∉ l.map (·.1)) : moS l s = none := by
  induction l with
  | nil => rfl
  | cons p r ih =>
    rw [List.map_cons, List.mem_cons, not_or] at h
    rw [moS_cons, ih h.2]
    simp only [if_neg h.1]
theorem rise_notin {a : ByteArray} {l : List ByteArray} (h : ∀ s ∈ l, cmpI a s < 0) : a ∉ l := fun hm => by
  have h1 := h a hm
  have h2 := cmpI_eq.2 (rfl : a = a)
  omega
theorem payW_mo (s : Sh) (z : List Wv) (h : Rise (z.map (·.1))) : payW s z = match moS z s.1 with | some u => min s.2 u | none => s.2 := by
  unfold payW
  generalize s.2 = a
  generalize s.1 = t
  induction z generalizing a with
  | nil => rfl
  | cons p r ih =>
    rw [List.map_cons] at h
    obtain ⟨h1, h2⟩ := List.pairwise_cons.1 h
    rw [List.foldl_cons, moS_cons]
    by_cases e : p.1 = t
    · subst e
      have hn := rise_notin h1
      rw [moS_miss _ _ hn, pay_miss _ _ _ hn, pyS, if_pos rfl, if_pos rfl]
    · rw [pyS, if_neg e, ih h2]
      cases moS r t with
      | some u => rfl
      | none => simp only [if_neg (Ne.symm e)]
theorem sh_mo (b : Option Sh) (l : List Sh) (h : shErr b l = 0) : MoOk l := by
  induction l generalizing b with
  | nil => exact fun p hp => by cases hp
  | cons p r ih =>
    unfold shErr at h
    split at h
    · omega
    · split at h
      · omega
      · split at h
        · omega
        · rename_i ht
          have i3 := ih _ h
          intro q hq
          rcases List.mem_cons.1 hq with rfl | hq
          · unfold inB at ht
            simp at ht
            omega
          · exact i3 q hq
theorem ssE_mo {l : List Sh} {z : List Wv} (h : ssE l z = 0) : MoOk l ∧ MoOk z := by
  have h1 : shE l = 0 := by
    unfold ssE at h
    split at h
    · assumption
    · exact h
  have h2 : wvE z = 0 := by
    unfold ssE at h
    rw [if_pos h1] at h
    exact h
  constructor
  · unfold shE at h1
    split at h1
    · omega
    · exact sh_mo _ _ h1
  · unfold wvE at h2
    split at h2
    · omega
    · exact (wv_rise _ _ h2).2
theorem ssE_rise {l : List Sh} {z : List Wv} (h : ssE l z = 0) : Rise (z.map (·.1)) := by
  have h1 : shE l = 0 := by
    unfold ssE at h
    split at h
    · assumption
    · exact h
  have h2 : wvE z = 0 := by
    unfold ssE at h
    rw [if_pos h1] at h
    exact h
  unfold wvE at h2
  split at h2
  · omega
  · exact (wv_rise _ _ h2).1.1
end Go.Proofs.YtamoefnpfkcigaaDoor
