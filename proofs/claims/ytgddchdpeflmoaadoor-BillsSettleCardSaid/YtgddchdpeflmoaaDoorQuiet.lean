/- Regions that draw their order and whose calls make memory: one walk in the order of the text, over the class of the worlds in which nothing old has turned. No program. -/
import Derived.Test.YtgddchdpeflmoaaDoorBase
namespace Go.Proofs.YtgddchdpeflmoaaDoor
open Go.RowKit
section
variable {P : Program} {o : Oper} {a : Act} {C : World → Prop} {K : Act → Prop}
theorem quiet_value (v : Value) (hv : ∀ w, C w → (execOp a.eval o).run P w = .ok (.value v) w) (hK : K (a.put o.dst v)) : o.quiet P a C K :=
  ⟨v, fun w hw => by unfold Oper.quietAt; rw [hv w hw]; exact ⟨rfl, rfl⟩, hK⟩
theorem quiet_call (f : FuncId) (args : Array Value) (v : Value) (hrun : ∀ w, (execOp a.eval o).run P w = .ok (.enter f args) w) (hc : ∀ w, C w → Calls P f args w fun e w' => e = .returned v ∧ C w') (hK : K (a.put o.dst v)) : o.quiet P a C K :=
  ⟨v, fun w hw => by unfold Oper.quietAt; rw [hrun w]; exact ⟨rfl, hc w hw⟩, hK⟩
theorem quiet_load_row (ty : TypeId) (x : Operand) (ho : o.op = .load ty x) (g : Nat) (hx : a.eval x = .pointer (some ⟨g, 0, none⟩)) (t : TypeId) (cs : Array Value) (d : TypeDesc) (hg : ∀ w, C w → Bk w g t cs)
    (hu : P.underlying ty = some d) (hd : (match d with | .struct _ | .array _ _ => true | _ => false) = true) (hi : (P.info? ty).map (·.size) = some cs.size) (hK : K (a.put o.dst (.agg cs))) : o.quiet P a C K :=
  quiet_value _ (fun w hw => by
    unfold execOp
    simp only [ho, hx, Instr.loadAt, Instr.sureAddr, Sem.run_bind, Sem.run_pure, Result.andThen_ok, run_loadVar_row w g t ty cs (0, 0) d (hg w hw) hu hd hi]) hK
theorem G.callNone {A w : World} {f : FuncId} {args : Array Value} {v : Value} (hG : G A w none) (h : Calls P f args w fun e w' => e = .returned v ∧ G w w' none) : Calls P f args w fun e w' => e = .returned v ∧ G A w' none :=
  h.mono fun _ _ ⟨he, hg⟩ => ⟨he, hG.trans hg⟩
theorem wpQuiet_op {ops : Array Oper} {Q : Act → Prop} {rest : List Oper} (hg : o.guard = none) (h : ∀ K : Act → Prop, (∀ a, wpQuiet P ops C Q rest a → K a) → o.quiet P a C K) : wpQuiet P ops C Q (o :: rest) a :=
  wpQuiet_step fun K hK => by
    rw [if_pos (by simp [Region.wanted, hg])]
    exact h K hK
end
end Go.Proofs.YtgddchdpeflmoaaDoor
