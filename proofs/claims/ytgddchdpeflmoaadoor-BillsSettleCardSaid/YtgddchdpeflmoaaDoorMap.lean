/- A map keyed by strings, told by a function from its keys to the values that stand at them, and by how many there are. No program. -/
import Derived.Test.YtgddchdpeflmoaaDoorBase
import Derived.Maps.OwnSet
import Derived.Maps.OwnOps
import Derived.StringKeys
namespace Go.Proofs.YtgddchdpeflmoaaDoor
open Go.RowKit Go.ChangeMaps Go.MapKept
open Go.Maps (Keyed IsMap Tidy has size)

/-- Each value reads as itself. -/
def RV (v : Value) : Option (DataW Value × List MemPlace) := some (.held v, [])
def kL (s : ByteArray) : Lit := .string s.data.toList
theorem kL_inj {s t : ByteArray} (h : s ≠ t) : kL s ≠ kL t := fun e => h (Go.WideShapes.bytes_inj (by unfold kL at e; injection e))
theorem kL_key (s : ByteArray) : WideAt.IsKeyLit (kL s) := trivial
abbrev Fn := ByteArray → Option Value
/-- What a map holds, as a datum. -/
def MapIs (D : DataW Value) (c : Nat) (f : Fn) : Prop := Tidy D ∧ size D = c ∧ ∀ s, has D (kL s) = (f s).isSome ∧ ∀ v, f s = some v → ∀ z, D.atKey (kL s) z = .held v
/-- Block 'b' is a map of 'c' keys that holds what 'f' says. -/
def OwnM (P : Program) (k : TypeId) (w : World) (b c : Nat) (f : Fn) : Prop := ∃ D n, w.ownsMap P k RV b n D ∧ n ≤ c ∧ MapIs D c f
def fput (f : Fn) (s : ByteArray) (v : Value) : Fn := fun t => if t = s then some v else f t
def fdel (f : Fn) (s : ByteArray) : Fn := fun t => if t = s then none else f t
def cput (c : Nat) (f : Fn) (s : ByteArray) : Nat := if (f s).isSome = true then c else c + 1
theorem MapIs.empty : MapIs (.map []) 0 (fun _ => none) := ⟨Maps.tidy_empty, rfl, fun _ => ⟨rfl, fun _ h => by cases h⟩⟩
theorem MapIs.put {D : DataW Value} {c : Nat} {f : Fn} (h : MapIs D c f) (s : ByteArray) (v : Value) : MapIs (D.put (kL s) (.held v)) (cput c f s) (fput f s v) := by
  obtain ⟨h1, h2, h3⟩ := h
  refine ⟨h1.put (kL_key s) _, ?_, fun t => ?_⟩
  · rw [Maps.size_put h1, (h3 s).1, h2]
    rfl
  · by_cases e : t = s
    · subst e
      simp only [fput, if_pos]
      exact ⟨by rw [Maps.has_put_same h1.isMap (kL_key t)]; rfl, fun u hu z => by cases hu; exact Maps.atKey_put_same h1.isMap (kL_key t) _ _⟩
    · simp only [fput, if_neg e]
      exact ⟨by rw [Maps.has_put_other (kL_inj e)]; exact (h3 t).1, fun u hu z => by rw [Maps.atKey_put_other (kL_inj e)]; exact (h3 t).2 u hu z⟩
theorem MapIs.del {D : DataW Value} {c : Nat} {f : Fn} (h : MapIs D c f) (s : ByteArray) : MapIs (D.del (kL s)) (if (f s).isSome = true then c - 1 else c) (fdel f s) := by
  obtain ⟨h1, h2, h3⟩ := h
  refine ⟨h1.del _, ?_, fun t => ?_⟩
  · have := Maps.size_del h1 (k := kL s)
    rw [(h3 s).1, h2] at this
    split at this <;> simp_all <;> omega
  · by_cases e : t = s
    · subst e
      simp only [fdel, if_pos]
      exact ⟨by rw [Maps.has_del_same]; rfl, fun u hu => by cases hu⟩
    · simp only [fdel, if_neg e]
      exact ⟨by rw [Maps.has_del_other (kL_inj e)]; exact (h3 t).1, fun u hu z => by rw [Maps.atKey_del_other (kL_inj e)]; exact (h3 t).2 u hu z⟩

section
variable {P : Program} {k : TypeId} {w : World} {b c : Nat} {f : Fn}
theorem OwnM.made (w : World) (P : Program) (k : TypeId) {b : Nat} (hb : w.heap.size = b) : OwnM P k (w.alloc (.map #[] 0)) b 0 (fun _ => none) := by
  subst hb
  exact ⟨_, 0, World.ownsMap_made w P k RV, Nat.le_refl _, MapIs.empty⟩
theorem OwnM.lt (h : OwnM P k w b c f) : b < w.heap.size := by obtain ⟨D, n, h, _⟩ := h; exact h.lt
theorem OwnM.grown {w' : World} {s : Option Nat} (h : OwnM P k w b c f) (hg : G w w' s) (hs : some b ≠ s) : OwnM P k w' b c f := by obtain ⟨D, n, h, r⟩ := h; exact ⟨D, n, h.kept hg hs, r⟩
theorem OwnM.quiet {w' : World} (h : OwnM P k w b c f) (hg : G w w' none) : OwnM P k w' b c f := h.grown hg (by simp)
theorem OwnM.alloc (h : OwnM P k w b c f) (o : Obj) : OwnM P k (w.alloc o) b c f := h.quiet ((G.refl _ _).alloc o)
theorem OwnM.drewN (h : OwnM P k w b c f) (n : Nat) : OwnM P k (w.drewN n) b c f := h.quiet ((G.refl _ _).drewN n)
theorem OwnM.setCell (h : OwnM P k w b c f) {p : Addr} (hp : b ≠ p.block) (u : Value) : OwnM P k (w.setCell p u) b c f := h.grown (grownBy_setCell_row w p u) (by simpa using hp)
theorem OwnM.setRow (h : OwnM P k w b c f) {g : Nat} (hp : b ≠ g) (cs : Array Value) : OwnM P k (w.setRow g cs) b c f := h.grown (grownBy_setRow w g cs) (by simpa using hp)
theorem OwnM.look {t e : TypeId} (h : OwnM P k w b c f) (hk : P.underlying k = some .string) (ht : P.underlying t = some (.map k e)) {z : Value} (hz : (zeroValue e).run P w = .ok z w) {s : ByteArray} (hs : s.size ≤ maxLen) :
    (Instr.lookup t (.map (some b)) (.string s) false).run P w = .ok ((f s).getD z) w := by
  obtain ⟨D, n, h, _, h1, h2, h3⟩ := h
  obtain ⟨v, ps, hrun, hv⟩ := h.lookup (Maps.string_keyed hk) ht hz (zd := .held z) (zp := []) rfl (Go.WideMaps.keyOf_string_mk hk hs)
  rw [hrun]
  have e : DataW.held v = D.atKey (kL s) (.held z) := by have := congrArg (fun o => o.map Prod.fst) hv; simpa [RV, kL] using this
  cases hf : f s with
  | none =>
    have hn := (h3 s).1
    rw [hf] at hn
    rw [Maps.atKey_of_not_has hn] at e
    injection e with e
    rw [e]; rfl
  | some u =>
    rw [(h3 s).2 u hf] at e
    injection e with e
    rw [e]; rfl
theorem OwnM.look_ok {t e : TypeId} (h : OwnM P k w b c f) (hk : P.underlying k = some .string) (ht : P.underlying t = some (.map k e)) {z : Value} (hz : (zeroValue e).run P w = .ok z w) {s : ByteArray} (hs : s.size ≤ maxLen) :
    (Instr.lookup t (.map (some b)) (.string s) true).run P w = .ok (.tuple #[(f s).getD z, .bool (f s).isSome]) w := by
  obtain ⟨D, n, h, _, h1, h2, h3⟩ := h
  obtain ⟨v, ps, hrun, hv⟩ := h.look_ok (Maps.string_keyed hk) ht hz (zd := .held z) (zp := []) rfl (Go.WideMaps.keyOf_string_mk hk hs)
  rw [hrun]
  have e : DataW.held v = D.atKey (kL s) (.held z) := by have := congrArg (fun o => o.map Prod.fst) hv; simpa [RV, kL] using this
  have hb : has D (kL s) = (f s).isSome := (h3 s).1
  rw [show Maps.has D (Lit.string s.data.toList) = (f s).isSome from hb]
  cases hf : f s with
  | none =>
    have hn := (h3 s).1
    rw [hf] at hn
    rw [Maps.atKey_of_not_has hn] at e
    injection e with e
    rw [e]; rfl
  | some u =>
    rw [(h3 s).2 u hf] at e
    injection e with e
    rw [e]; rfl
theorem OwnM.store {t e : TypeId} (h : OwnM P k w b c f) (hk : P.underlying k = some .string) (ht : P.underlying t = some (.map k e)) (hc : c < maxLen) {s : ByteArray} (hs : s.size ≤ maxLen) (v : Value) :
    ∃ w', (Instr.mapUpdate t (.map (some b)) (.string s) v).run P w = .ok () w' ∧ OwnM P k w' b (cput c f s) (fput f s v) ∧ w.grownBy w' (some b) := by
  obtain ⟨D, n, h, hn, hM⟩ := h
  obtain ⟨w', hrun, h1, h2⟩ := h.update (Maps.string_keyed hk) ht (Nat.lt_of_le_of_lt hn hc) (Go.WideMaps.keyOf_string_mk hk hs) (val := v) (d := .held v) (ps := []) rfl
  have hM' := hM.put s v
  refine ⟨w', hrun, ⟨_, size (D.put (kL s) (.held v)), ?_, Nat.le_of_eq hM'.2.1, hM'⟩, h2⟩
  obtain ⟨es, clock, hb, F, _, hD⟩ := h1
  have hD' : D.put (kL s) (.held v) = .map ((es.toList.map (Go.WideElems.rg P k RV)).foldr DataW.insert []) := hD
  refine ⟨es, clock, hb, F, ?_, hD⟩
  rw [hD']
  simp [size, length_sorted]
theorem OwnM.drop {t e : TypeId} (h : OwnM P k w b c f) (hk : P.underlying k = some .string) (ht : P.underlying t = some (.map k e)) {s : ByteArray} (hs : s.size ≤ maxLen) (ty : TypeId) :
    ∃ w', (Builtin.delete_ #[t, k] ty #[.map (some b), .string s]).run P w = .ok (.tuple #[]) w' ∧ OwnM P k w' b (if (f s).isSome = true then c - 1 else c) (fdel f s) ∧ w.grownBy w' (some b) := by
  obtain ⟨D, n, h, hn, hM⟩ := h
  obtain ⟨w', hrun, h1, h2⟩ := h.drop (Maps.string_keyed hk) ht (Go.WideMaps.keyOf_string_mk hk hs) ty
  have hM' := hM.del s
  refine ⟨w', hrun, ⟨_, size (D.del (kL s)), ?_, Nat.le_of_eq hM'.2.1, hM'⟩, h2.grown⟩
  obtain ⟨es, clock, hb, F, _, hD⟩ := h1
  have hD' : D.del (kL s) = .map ((es.toList.map (Go.WideElems.rg P k RV)).foldr DataW.insert []) := hD
  refine ⟨es, clock, hb, F, ?_, hD⟩
  rw [hD']
  simp [size, length_sorted]
end

/-! ### At the operation, for the walk -/
section
variable {P : Program} {w : World} {ops : Array Oper} {rest : List Oper} {o : Oper} {a : Act} {Q : Exit → Act → World → Prop}
theorem wpM_look (hg : o.guard = none) (m x : Operand) (t : TypeId) (hop : o.op = Op.lookup t m x false) (k e : TypeId) (hk : P.underlying k = some .string) (ht : P.underlying t = some (.map k e)) (z : Value) (hz : (zeroValue e).run P w = .ok z w)
    (b c : Nat) (f : Fn) (hm : a.eval m = .map (some b)) (hown : OwnM P k w b c f) (s : ByteArray) (hx : a.eval x = .string s) (hs : s.size ≤ maxLen) (hK : wpList P ops Q rest (a.put o.dst ((f s).getD z)) w) : wpList P ops Q (o :: rest) a w := by
  refine wpList_plain hg fun K' hK' => ?_
  unfold Oper.wp
  simp [execOp, hop, hm, hx, hown.look hk ht hz hs, Result.andThen]
  exact hK' _ _ hK
theorem wpM_look_ok (hg : o.guard = none) (m x : Operand) (t : TypeId) (hop : o.op = Op.lookup t m x true) (k e : TypeId) (hk : P.underlying k = some .string) (ht : P.underlying t = some (.map k e)) (z : Value) (hz : (zeroValue e).run P w = .ok z w)
    (b c : Nat) (f : Fn) (hm : a.eval m = .map (some b)) (hown : OwnM P k w b c f) (s : ByteArray) (hx : a.eval x = .string s) (hs : s.size ≤ maxLen) (hK : wpList P ops Q rest (a.put o.dst (.tuple #[(f s).getD z, .bool (f s).isSome])) w) : wpList P ops Q (o :: rest) a w := by
  refine wpList_plain hg fun K' hK' => ?_
  unfold Oper.wp
  simp [execOp, hop, hm, hx, hown.look_ok hk ht hz hs, Result.andThen]
  exact hK' _ _ hK
theorem wpM_store (hg : o.guard = none) (m x v : Operand) (t : TypeId) (hop : o.op = Op.mapUpdate t m x v) (k e : TypeId) (hk : P.underlying k = some .string) (ht : P.underlying t = some (.map k e))
    (b c : Nat) (f : Fn) (hm : a.eval m = .map (some b)) (hown : OwnM P k w b c f) (hc : c < maxLen) (s : ByteArray) (hx : a.eval x = .string s) (hs : s.size ≤ maxLen) (u : Value) (hv : a.eval v = u)
    (hK : ∀ w', OwnM P k w' b (cput c f s) (fput f s u) → w.grownBy w' (some b) → wpList P ops Q rest (a.put o.dst undef) w') : wpList P ops Q (o :: rest) a w := by
  refine wpList_plain hg fun K' hK' => ?_
  obtain ⟨w', hrun, r1, r2⟩ := hown.store hk ht hc hs u
  unfold Oper.wp
  simp [execOp, hop, hm, hx, hv, hrun, Result.andThen]
  exact hK' _ _ (hK w' r1 r2)
theorem wpM_delete (hg : o.guard = none) (m x : Operand) (t k : TypeId) (hop : o.op = Op.call { callee := Callee.builtin Builtin.delete, args := #[m, x], argTypes := #[t, k] }) (e : TypeId) (hk : P.underlying k = some .string) (ht : P.underlying t = some (.map k e))
    (b c : Nat) (f : Fn) (hm : a.eval m = .map (some b)) (hown : OwnM P k w b c f) (s : ByteArray) (hx : a.eval x = .string s) (hs : s.size ≤ maxLen)
    (hK : ∀ w', OwnM P k w' b (if (f s).isSome = true then c - 1 else c) (fdel f s) → w.grownBy w' (some b) → wpList P ops Q rest (a.put o.dst (.tuple #[])) w') : wpList P ops Q (o :: rest) a w := by
  refine wpList_plain hg fun K' hK' => ?_
  obtain ⟨w', hrun, r1, r2⟩ := hown.drop hk ht hs o.type
  unfold Oper.wp
  simp [execOp, hop, resolve, invoke, builtin, hm, hx, hrun, Result.andThen]
  exact hK' _ _ (hK w' r1 r2)
theorem wpM_len (hg : o.guard = none) (m : Operand) (t : TypeId) (hop : o.op = Op.call { callee := Callee.builtin Builtin.len, args := #[m], argTypes := #[t] }) (k e : TypeId) (ht : P.underlying t = some (.map k e))
    (b c : Nat) (f : Fn) (hm : a.eval m = .map (some b)) (hown : OwnM P k w b c f) (hK : wpList P ops Q rest (a.put o.dst (.int .i64 c)) w) : wpList P ops Q (o :: rest) a w := by
  obtain ⟨D, n, h, _, h1, h2, h3⟩ := hown
  refine wpList_len_own w hg m t hop k e ht RV b n D hm h ?_
  rw [h2]
  exact hK
end
end Go.Proofs.YtgddchdpeflmoaaDoor
