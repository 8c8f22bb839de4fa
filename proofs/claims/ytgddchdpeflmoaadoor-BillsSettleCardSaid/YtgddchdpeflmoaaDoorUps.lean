/- Classes: upsOf, comesBack, CheckClasses. -/
import Derived.Test.YtgddchdpeflmoaaDoorCls
namespace Go.Proofs.YtgddchdpeflmoaaDoor
open Go.RowKit

/-- What a list of classes says of the class above. -/
def upS : List Cla → ByteArray → Option ByteArray
  | [], _ => none
  | p :: r, s => match upS r s with | some u => some u | none => if s = p.1 then some p.2 else none
def sv (o : ByteArray → Option ByteArray) : Fn := fun s => (o s).map Value.string
def eF : Fn := fun _ => none
def upF (f : Fn) : List Cla → Fn
  | [] => f
  | p :: r => upF (fput f p.1 (.string p.2)) r
def upC (c : Nat) (f : Fn) : List Cla → Nat
  | [] => c
  | p :: r => upC (cput c f p.1) (fput f p.1 (.string p.2)) r
theorem upS_cons (p : Cla) (r : List Cla) (s : ByteArray) : upS (p :: r) s = match upS r s with | some u => some u | none => if s = p.1 then some p.2 else none := rfl
theorem upF_eq (f : Fn) (l : List Cla) (s : ByteArray) : upF f l s = match upS l s with | some u => some (.string u) | none => f s := by
  induction l generalizing f with
  | nil => rfl
  | cons p r ih =>
    show upF (fput f p.1 (.string p.2)) r s = _
    rw [ih, upS_cons]
    cases h : upS r s with
    | some u => rfl
    | none =>
      simp only [fput]
      by_cases e : s = p.1
      · simp [e]
      · simp [e]
theorem upF_sv (l : List Cla) : upF eF l = sv (upS l) := by
  funext s
  rw [upF_eq]
  unfold sv eF
  cases upS l s <;> rfl
theorem upC_le (c : Nat) (f : Fn) (l : List Cla) : upC c f l ≤ c + l.length := by
  induction l generalizing c f with
  | nil => simp [upC]
  | cons p r ih =>
    have h1 := ih (cput c f p.1) (fput f p.1 (.string p.2))
    have h2 : cput c f p.1 ≤ c + 1 := by unfold cput; split <;> omega
    show upC (cput c f p.1) (fput f p.1 (.string p.2)) r ≤ _
    simp only [List.length_cons]
    omega
theorem upF_snoc (f : Fn) (l : List Cla) (p : Cla) : upF f (l ++ [p]) = fput (upF f l) p.1 (.string p.2) := by
  induction l generalizing f with
  | nil => rfl
  | cons q r ih => exact ih _
theorem upC_snoc (c : Nat) (f : Fn) (l : List Cla) (p : Cla) : upC c f (l ++ [p]) = cput (upC c f l) (upF f l) p.1 := by
  induction l generalizing c f with
  | nil => rfl
  | cons q r ih => exact ih _ _
abbrev MapOf (w : World) (b c : Nat) (f : Fn) : Prop := OwnM Tryd.prog 9 w b c f
theorem zs_run (w : World) : (zeroValue 9).run Tryd.prog w = .ok (.string ⟨#[]⟩) w := by kernel_rfl
def UpsPost (l : List Cla) (w : World) (e : Ending) (w' : World) : Prop := ∃ b : Nat, e = .returned (.map (some b)) ∧ w.heap.size ≤ b ∧ MapOf w' b (upC 0 eF l) (upF eF l) ∧ G w w' none
def UpsRel (w : World) (l : List Cla) (g : Nat) (i : Value) (wr : World) : Prop :=
  ∃ k : Nat, k ≤ l.length ∧ i = .int .i64 k ∧ MapOf wr g (upC 0 eF (l.take k)) (upF eF (l.take k)) ∧ G w wr none
theorem take_snoc' {α : Type} (l : List α) (k : Nat) (p : α) (h : l[k]? = some p) : l.take (k + 1) = l.take k ++ [p] := by
  have hk := (List.getElem?_eq_some_iff.1 h).1
  rw [List.take_succ_eq_append_getElem hk, (List.getElem?_eq_some_iff.1 h).2]
end Go.Proofs.YtgddchdpeflmoaaDoor
