/- Classes: upsOf, comesBack, CheckClasses. -/
import Derived.Test.YtjjgohainbjecaaDoorCls
namespace Go.Proofs.YtjjgohainbjecaaDoor
open Go.RowKit

/-- What a list of classes says of the class above. -/
def upS : List Cla → ByteArray → Option ByteArray
  | [], _ => none
  | p :: r, s => match upS r s with | some u => some u | none => if s = p.1 then some p.2 else none
def sv (o : ByteArray → Option ByteArray) : Fn := fun s => (o s).map Value.string
def eF : Fn := fun _ => none
def upF (f : Fn) : List Cla → Fn
  | [] => f
  | p :: r => upF (fput f p.1 (.string p.2)) r
def upC (c : Nat) (f : Fn) : List Cla → Nat
  | [] => c
  | p :: r => upC (cput c f p.1) (fput f p.1 (.string p.2)) r
theorem upS_cons (p : Cla) (r : List Cla) (s : ByteArray) : upS (p :: r) s = match upS r s with | some u => some u | none => if s = p.1 then some p.2 else none := rfl
theorem upF_eq (f : Fn) (l : List Cla) (s : ByteArray) : upF f l s = match upS l s with | some u => some (.string u) | none => f s := by
  induction l generalizing f with
  | nil => rfl
  | cons p r ih =>
    show upF (fput f p.1 (.string p.2)) r s = _
    rw [ih, upS_cons]
    cases h : upS r s with
    | some u => rfl
    | none =>
      simp only [fput]
      by_cases e : s = p.1
      · simp [e]
      · simp [e]
theorem upF_sv (l : List Cla) : upF eF l = sv (upS l) := by
  funext s
  rw [upF_eq]
  unfold sv eF
  cases upS l s <;> rfl
theorem upC_le (c : Nat) (f : Fn) (l : List Cla) : upC c f l ≤ c + l.length := by
  induction l generalizing c f with
  | nil => simp [upC]
  | cons p r ih =>
    have h1 := ih (cput c f p.1) (fput f p.1 (.string p.2))
    have h2 : cput c f p.1 ≤ c + 1 := by unfold cput; split <;> omega
    show upC (cput c f p.1) (fput f p.1 (.string p.2)) r ≤ _
    simp only [List.length_cons]
    omega
theorem upF_snoc (f : Fn) (l : List Cla) (p : Cla) : upF f (l ++ [p]) = fput (upF f l) p.1 (.string p.2) := by
  induction l generalizing f with
  | nil => rfl
  | cons q r ih => exact ih _
theorem upC_snoc (c : Nat) (f : Fn) (l : List Cla) (p : Cla) : upC c f (l ++ [p]) = cput (upC c f l) (upF f l) p.1 := by
  induction l generalizing c f with
  | nil => rfl
  | cons q r ih => exact ih _ _
abbrev MapOf (w : World) (b c : Nat) (f : Fn) : Prop := OwnM Tryd.prog 9 w b c f
theorem zs_run (w : World) : (zeroValue 9).run Tryd.prog w = .ok (.string ⟨#[]⟩) w := by kernel_rfl
def UpsPost (l : List Cla) (w : World) (e : Ending) (w' : World) : Prop := ∃ b : Nat, e = .returned (.map (some b)) ∧ w.heap.size ≤ b ∧ MapOf w' b (upC 0 eF l) (upF eF l) ∧ G w w' none
def UpsRel (w : World) (l : List Cla) (g : Nat) (i : Value) (wr : World) : Prop :=
  ∃ k : Nat, k ≤ l.length ∧ i = .int .i64 k ∧ MapOf wr g (upC 0 eF (l.take k)) (upF eF (l.take k)) ∧ G w wr none
theorem take_snoc' {α : Type} (l : List α) (k : Nat) (p : α) (h : l[k]? = some p) : l.take (k + 1) = l.take k ++ [p] := by
  have hk := (List.getElem?_eq_some_iff.1 h).1
  rw [List.take_succ_eq_append_getElem hk, (List.getElem?_eq_some_iff.1 h).2]
set_option maxRecDepth 100000 in
set_option maxHeartbeats 2000000 in
theorem upsOf_c (v : Value) (l : List Cla) (w : World) (hr : Rd w 2 v l.length (clL l)) (hl : ClsOk l) (hn : l.length ≤ 1000) :
    Calls Tryd.prog 21 #[v] w (UpsPost l w) := by
  obtain ⟨a, cap, rfl, hcap, hm, hlen, hnil, hcell⟩ := hr
  have hmm : ∀ (n : Nat) (w : World), (Instr.makeMap 51 (some (.int .i64 (n : Int)))).run Tryd.prog w = .ok (.map (some w.heap.size)) (w.alloc (.map #[] 0)) := fun _ _ => rfl
  go_enter Tryd.func21, Tryd.ntmps21
  go_wp2_with fail
  go_loopw [11] (UpsRel w l w.heap.size) (fun i _ => l.length - (intOf i).toNat)
  case atStart => exact ⟨0, by omega, rfl, OwnM.made _ _ _ rfl, (G.refl _ _).alloc _⟩
  case round =>
    obtain ⟨k, hkl, rfl, hM, hG⟩ := hrel
    by_cases hk : k < l.length
    · obtain ⟨p, hp⟩ : ∃ p, l[k]? = some p := ⟨_, List.getElem?_eq_getElem hk⟩
      have hpl := hl p (List.mem_of_getElem? hp)
      cases a with
      | none => have := (hnil rfl).1; omega
      | some ad =>
        obtain ⟨bb, bo, bs⟩ := ad
        obtain ⟨e1, e2, e3⟩ := hcell _ rfl
        dsimp only at e1 e2 e3
        subst e1
        have hrow : ∀ j v, (clC p).toList[j]? = some v → wr.cell? ((⟨bb, bo + k * 2, none⟩ : Addr).add j) = some v := by
          intro j v hv
          rw [add_at]
          have h1 := e3 (k * 2 + j) v (clL_at l k p hp j v hv)
          rw [← Nat.add_assoc] at h1
          exact ((gcell hG).1 bb _ e2).trans h1
        have HR := Lib.hid hrow
        clear hrow hcell e3 hnil
        have hs1 := hpl.1
        unfold Small at hs1
        have hcc := upC_le 0 eF (l.take k)
        have hct : (l.take k).length ≤ k := List.length_take_le _ _
        have HT : Hid (cput (upC 0 eF (l.take k)) (upF eF (l.take k)) p.1 = upC 0 eF (l.take (k + 1)) ∧ fput (upF eF (l.take k)) p.1 (.string p.2) = upF eF (l.take (k + 1))) := Lib.hid (by rw [take_snoc' l k p hp, upC_snoc, upF_snoc]; exact ⟨rfl, rfl⟩)
        have hclt : upC 0 eF (l.take k) < maxLen := by unfold maxLen; omega
        have hgl := hM.lt
        clear hp hcc hct
        go_wp2_with (first | (refine wpList_load_at rfl 48 _ rfl ⟨bb, bo + k * 2, none⟩ rfl #[.string p.1, .string p.2] _ HR.out Tryd.underlying48 rfl (cl_info p) ?_) | (at_mapUpdate; refine wpM_store rfl _ _ _ 51 rfl 9 9 Tryd.underlying9 Tryd.underlying51 w.heap.size _ _ rfl (hM.alloc _) hclt p.1 rfl hs1 (.string p.2) rfl ?_; intro w1 hM1 hG1))
        rw [HT.out.1, HT.out.2] at hM1
        refine ⟨⟨k + 1, by omega, by go_num, hM1, ?_⟩, by simp only [intOf]; omega⟩
        exact (hG.alloc _).other hG1 (fun j e => .inl (by obtain rfl := Option.some.inj e; exact Nat.le_refl _))
    · obtain rfl : k = l.length := by omega
      rw [List.take_length] at hM
      go_wp2_with fail
      go_ret
      exact ⟨_, rfl, Nat.le_refl _, hM, hG⟩
end Go.Proofs.YtjjgohainbjecaaDoor
