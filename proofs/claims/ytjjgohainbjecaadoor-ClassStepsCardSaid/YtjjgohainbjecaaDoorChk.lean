/- Classes: comesBack, CheckClasses. -/
import Derived.Test.YtjjgohainbjecaaDoorUps
import Derived.Test.YtjjgohainbjecaaDoorHrs
namespace Go.Proofs.YtjjgohainbjecaaDoor
open Go.RowKit

def eS : ByteArray := ⟨#[]⟩
abbrev Up := ByteArray → Option ByteArray
def UpOk (u : Up) : Prop := ∀ s t, u s = some t → Small t
theorem sv_getD (u : Up) (s : ByteArray) : (sv u s).getD (.string ⟨#[]⟩) = .string ((u s).getD eS) := by unfold sv eS; cases u s <;> rfl
theorem sv_isSome (u : Up) (s : ByteArray) : (sv u s).isSome = (u s).isSome := by unfold sv; cases u s <;> rfl
theorem Small.eS : Small eS := by show (0 : Nat) ≤ _; omega
theorem UpOk.get {u : Up} (h : UpOk u) (s : ByteArray) : Small ((u s).getD eS) := by
  cases hu : u s with
  | none => exact Small.eS
  | some t => exact h s t hu
theorem upS_ok {l : List Cla} (h : ClsOk l) : UpOk (upS l) := by
  induction l with
  | nil => intro s t e; cases e
  | cons p r ih =>
    intro s t e
    rw [upS_cons] at e
    cases hr : upS r s with
    | some v => rw [hr] at e; cases e; exact ih (fun q hq => h q (List.mem_cons_of_mem _ hq)) s _ hr
    | none =>
      rw [hr] at e
      dsimp only at e
      split at e
      · cases e; exact (h p (by simp)).2
      · cases e
section
variable {w : World} {ops : Array Oper} {rest : List Oper} {o : Oper} {a : Act} {Q : Exit → Act → World → Prop}
theorem wpS_look (hg : o.guard = none) (m x : Operand) (hop : o.op = Op.lookup 51 m x false) (b c : Nat) (u : Up) (hm : a.eval m = .map (some b)) (hown : MapOf w b c (sv u)) (s : ByteArray) (hx : a.eval x = .string s) (hs : Small s)
    (hK : wpList Tryd.prog ops Q rest (a.put o.dst (.string ((u s).getD eS))) w) : wpList Tryd.prog ops Q (o :: rest) a w :=
  wpM_look hg m x 51 hop 9 9 Tryd.underlying9 Tryd.underlying51 _ (zs_run w) b c _ hm hown s hx hs (by rw [sv_getD]; exact hK)
theorem wpS_look_ok (hg : o.guard = none) (m x : Operand) (hop : o.op = Op.lookup 51 m x true) (b c : Nat) (u : Up) (hm : a.eval m = .map (some b)) (hown : MapOf w b c (sv u)) (s : ByteArray) (hx : a.eval x = .string s) (hs : Small s)
    (hK : wpList Tryd.prog ops Q rest (a.put o.dst (.tuple #[.string ((u s).getD eS), .bool (u s).isSome])) w) : wpList Tryd.prog ops Q (o :: rest) a w :=
  wpM_look_ok hg m x 51 hop 9 9 Tryd.underlying9 Tryd.underlying51 _ (zs_run w) b c _ hm hown s hx hs (by rw [sv_getD, sv_isSome]; exact hK)
theorem wpS_len (hg : o.guard = none) (m : Operand) (hop : o.op = Op.call { callee := Callee.builtin Builtin.len, args := #[m], argTypes := #[51] }) (b c : Nat) (u : Up) (hm : a.eval m = .map (some b)) (hown : MapOf w b c (sv u))
    (hK : wpList Tryd.prog ops Q rest (a.put o.dst (.int .i64 c)) w) : wpList Tryd.prog ops Q (o :: rest) a w :=
  wpM_len hg m 51 hop 9 9 Tryd.underlying51 b c _ hm hown hK
end
def eqB (a b : ByteArray) : Bool := a.toList == b.toList
theorem eqB_iff {a b : ByteArray} : eqB a b = true ↔ a = b := by
  unfold eqB
  rw [beq_iff_eq]
  constructor
  · intro h
    apply Go.WideShapes.bytes_inj
    rw [ByteArray.toList_eq, ByteArray.toList_eq] at h
    exact h
  · intro h; rw [h]
/-- So many steps up come to the key. -/
def cbk (u : Up) (key : ByteArray) : Nat → ByteArray → Bool
  | 0, _ => false
  | n + 1, up => if eqB up key = true then true else cbk u key n ((u up).getD eS)
def cbB (u : Up) (c : Nat) (key : ByteArray) : Bool := cbk u key c ((u key).getD eS)
def CbRel (u : Up) (c : Nat) (key : ByteArray) (v i : Value) : Prop :=
  ∃ (k : Nat) (up : ByteArray), k ≤ c ∧ i = .int .i64 k ∧ v = .string up ∧ Small up ∧ cbB u c key = cbk u key (c - k) up
set_option maxRecDepth 100000 in
set_option maxHeartbeats 2000000 in
theorem comesBack_c (b c : Nat) (u : Up) (key : ByteArray) (w : World) (hM : MapOf w b c (sv u)) (hu : UpOk u) (hk : Small key) (hc : c ≤ 1000) :
    Calls Tryd.prog 29 #[.map (some b), .string key] w fun e w' => e = .returned (.bool (cbB u c key)) ∧ w = w' := by
  have hg0 := hu.get key
  go_enter Tryd.func29, Tryd.ntmps29
  go_wp2_with (first | (at_lookup; refine wpS_look rfl _ _ rfl b c u rfl hM key rfl hk ?_) | (at_len; refine wpS_len rfl _ rfl b c u rfl hM ?_))
  go_loop [5, 11] (CbRel u c key) (fun _ i => c - (intOf i).toNat)
  case atStart => exact ⟨0, _, by omega, rfl, rfl, hg0, rfl⟩
  case round =>
    clear hg0
    obtain ⟨k, up, hkc, rfl, rfl, hup, heq⟩ := hrel
    have HE := Lib.hid heq
    clear heq
    by_cases hlt : k < c
    · have HF : Hid (cbB u c key = if eqB up key = true then true else cbk u key (c - (k + 1)) ((u up).getD eS)) := Lib.hid (by rw [HE.out, show c - k = (c - (k + 1)) + 1 by omega]; rfl)
      cases he : eqB up key with
      | true =>
        have HN : Hid (cbB u c key = true) := Lib.hid (by rw [HF.out, if_pos he])
        unfold eqB at he
        go_wp2_with fail
        go_ret
        exact ⟨ret_bool HN.out.symm, rfl⟩
      | false =>
        have HN : Hid (cbB u c key = cbk u key (c - (k + 1)) ((u up).getD eS)) := Lib.hid (by rw [HF.out, if_neg (by simp [he])])
        unfold eqB at he
        have hg1 := hu.get up
        go_wp2_with (at_lookup; refine wpS_look rfl _ _ rfl b c u rfl hM up rfl hup ?_)
        go_round
        case rel => exact ⟨k + 1, _, by omega, by go_num, rfl, hg1, HN.out⟩
        case measure => simp [intOf]; omega
    · obtain rfl : k = c := by omega
      have HN : Hid (cbB u k key = false) := Lib.hid (by rw [HE.out, Nat.sub_self]; rfl)
      go_wp2_with fail
      go_ret
      exact ⟨ret_bool HN.out.symm, rfl⟩

/-! ### CheckClasses -/
def badKnown (u : Up) (p : Cla) : Bool := !p.2.toList.isEmpty && !(u p.2).isSome
def clTail (u : Up) (c : Nat) (l : List Cla) : Int := if l.any (badKnown u) = true then 8 else if l.any (fun p => cbB u c p.1) = true then 14 else 0
def clErr (l : List Cla) : Int :=
  if 30 < l.length then 2 else if ckErr ⟨#[]⟩ l = 0 then clTail (upS l) (upC 0 eF l) l else ckErr ⟨#[]⟩ l
def C1Rel (w : World) (l : List Cla) (u : Up) (c g : Nat) (i : Value) (wr : World) : Prop :=
  ∃ k : Nat, k ≤ l.length ∧ i = .int .i64 k ∧ (l.take k).any (badKnown u) = false ∧ MapOf wr g c (sv u) ∧ G w wr none
def C2Rel (w : World) (l : List Cla) (u : Up) (c g : Nat) (i : Value) (wr : World) : Prop :=
  ∃ k : Nat, k ≤ l.length ∧ i = .int .i64 k ∧ (l.take k).any (fun p => cbB u c p.1) = false ∧ MapOf wr g c (sv u) ∧ G w wr none
theorem any_of_at {α : Type} (q : α → Bool) (l : List α) (k : Nat) (p : α) (hp : l[k]? = some p) (hq : q p = true) : l.any q = true := List.any_eq_true.2 ⟨p, List.mem_of_getElem? hp, hq⟩
set_option maxRecDepth 100000 in
set_option maxHeartbeats 4000000 in
theorem checkClasses_c (v : Value) (l : List Cla) (w : World) (hr : Rd w 2 v l.length (clL l)) (hl : ClsOk l) (hn : l.length ≤ 1000) :
    Calls Tryd.prog 12 #[v] w fun e w' => e = .returned (.int .i64 (clErr l)) ∧ G w w' none := by
  by_cases h30 : 30 < l.length
  · have H := Lib.hid (show clErr l = 2 by simp [clErr, h30])
    obtain ⟨a, cap, rfl, hcap, hm, hlen, hnil, hcell⟩ := hr
    go_enter Tryd.func12, Tryd.ntmps12
    go_wp2_with fail
    go_ret
    exact ⟨by rw [H.out]; rfl, G.refl _ _⟩
  · by_cases hck : ckErr ⟨#[]⟩ l = 0
    · have H := Lib.hid (show clErr l = clTail (upS l) (upC 0 eF l) l by simp [clErr, h30, hck])
      have HCK := Lib.hid hck
      clear hck
      have HR := Lib.hid hr
      obtain ⟨a, cap, rfl, hcap, hm, hlen, hnil, hcell⟩ := hr
      have hcc := upC_le 0 eF l
      have HU := Lib.hid (upS_ok hl)
      go_enter Tryd.func12, Tryd.ntmps12
      go_wp2_with fail
      refine (checkClassKeys_c _ l _ HR.out hl hn).mono ?_; rintro e w1 ⟨rfl, hG1⟩
      rw [HCK.out]
      go_wp2_with fail
      refine (upsOf_c _ l _ (HR.out.quiet hG1) hl hn).mono ?_; rintro e w2 ⟨b, rfl, hb, hM, hG2⟩
      rw [upF_sv] at hM
      have hG := hG1.trans hG2
      clear hG1 hG2 hb
      generalize upS l = u at hM HU H
      generalize upC 0 eF l = c at hM hcc H
      go_wp2_with fail
      go_loopw [23] (C1Rel w l u c b) (fun i _ => l.length - (intOf i).toNat)
      case atStart => exact ⟨0, by omega, rfl, rfl, hM, hG⟩
      case round =>
        clear hM hG
        obtain ⟨k, hkl, rfl, hany, hM, hG⟩ := hrel
        have HA := Lib.hid hany
        clear hany
        by_cases hk : k < l.length
        · obtain ⟨p, hp⟩ : ∃ p, l[k]? = some p := ⟨_, List.getElem?_eq_getElem hk⟩
          have hpl := hl p (List.mem_of_getElem? hp)
          cases a with
          | none => have := (hnil rfl).1; omega
          | some ad =>
            obtain ⟨bb, bo, bs⟩ := ad
            obtain ⟨e1, e2, e3⟩ := hcell _ rfl
            dsimp only at e1 e2 e3
            subst e1
            have hrow : ∀ j v, (clC p).toList[j]? = some v → wr.cell? ((⟨bb, bo + k * 2, none⟩ : Addr).add j) = some v := by
              intro j v hv
              rw [add_at]
              have h1 := e3 (k * 2 + j) v (clL_at l k p hp j v hv)
              rw [← Nat.add_assoc] at h1
              exact ((gcell hG).1 bb _ e2).trans h1
            have HW := Lib.hid hrow
            clear hrow hcell e3 hnil
            have hs2 := hpl.2
            have HP := Lib.hid hp
            clear hp
            have hbk : badKnown u p = (!p.2.toList.isEmpty && !(u p.2).isSome) := rfl
            have HB := Lib.hid hbk
            clear hbk
            have hM' := hM.alloc (.cells #[.string p.1, .string p.2] 48)
            cases hem : p.2.toList.isEmpty with
            | true =>
              have HN : Hid ((l.take (k + 1)).any (badKnown u) = false) := Lib.hid (by rw [take_snoc' l k p HP.out, List.any_append, HA.out, List.any_cons, HB.out, hem]; rfl)
              go_wp2_with (first | (refine wpList_load_at rfl 48 _ rfl ⟨bb, bo + k * 2, none⟩ rfl #[.string p.1, .string p.2] _ HW.out Tryd.underlying48 rfl (cl_info p) ?_) | (at_lookup; refine wpS_look_ok rfl _ _ rfl b c u rfl hM' p.2 rfl hs2 ?_))
              go_roundw
              case rel => exact ⟨k + 1, by omega, by go_num, HN.out, hM', hG.alloc _⟩
              case measure => simp [intOf]; omega
            | false =>
              cases hso : (u p.2).isSome with
              | true =>
                have HN : Hid ((l.take (k + 1)).any (badKnown u) = false) := Lib.hid (by rw [take_snoc' l k p HP.out, List.any_append, HA.out, List.any_cons, HB.out, hso, hem]; rfl)
                go_wp2_with (first | (refine wpList_load_at rfl 48 _ rfl ⟨bb, bo + k * 2, none⟩ rfl #[.string p.1, .string p.2] _ HW.out Tryd.underlying48 rfl (cl_info p) ?_) | (at_lookup; refine wpS_look_ok rfl _ _ rfl b c u rfl hM' p.2 rfl hs2 ?_))
                go_roundw
                case rel => exact ⟨k + 1, by omega, by go_num, HN.out, hM', hG.alloc _⟩
                case measure => simp [intOf]; omega
              | false =>
                have HN : Hid (clErr l = 8) := Lib.hid (by rw [H.out, clTail, if_pos (any_of_at _ l k p HP.out (by rw [HB.out, hso, hem]; rfl))])
                go_wp2_with (first | (refine wpList_load_at rfl 48 _ rfl ⟨bb, bo + k * 2, none⟩ rfl #[.string p.1, .string p.2] _ HW.out Tryd.underlying48 rfl (cl_info p) ?_) | (at_lookup; refine wpS_look_ok rfl _ _ rfl b c u rfl hM' p.2 rfl hs2 ?_))
                go_ret
                exact ⟨ret_int HN.out.symm, hG.alloc _⟩
        · obtain rfl : k = l.length := by omega
          rw [List.take_length] at HA
          have HH : Hid (clErr l = if l.any (fun p => cbB u c p.1) = true then 14 else 0) := Lib.hid (by rw [H.out, clTail, if_neg (by simp [HA.out])])
          clear hk hkl
          go_wp2_with fail
          go_loopw [44] (C2Rel w l u c b) (fun i _ => l.length - (intOf i).toNat)
          case atStart => exact ⟨0, by omega, rfl, rfl, hM, hG⟩
          case round =>
            clear hM hG HA
            obtain ⟨k, hkl, rfl, hany, hM, hG⟩ := hrel
            have HA := Lib.hid hany
            clear hany
            by_cases hk : k < l.length
            · obtain ⟨p, hp⟩ : ∃ p, l[k]? = some p := ⟨_, List.getElem?_eq_getElem hk⟩
              have hpl := hl p (List.mem_of_getElem? hp)
              cases a with
              | none => have := (hnil rfl).1; omega
              | some ad =>
                obtain ⟨bb, bo, bs⟩ := ad
                obtain ⟨e1, e2, e3⟩ := hcell _ rfl
                dsimp only at e1 e2 e3
                subst e1
                have hrow : ∀ j v, (clC p).toList[j]? = some v → wr.cell? ((⟨bb, bo + k * 2, none⟩ : Addr).add j) = some v := by
                  intro j v hv
                  rw [add_at]
                  have h1 := e3 (k * 2 + j) v (clL_at l k p hp j v hv)
                  rw [← Nat.add_assoc] at h1
                  exact ((gcell hG).1 bb _ e2).trans h1
                have HW := Lib.hid hrow
                clear hrow hcell e3 hnil
                have hs1 := hpl.1
                have HP := Lib.hid hp
                clear hp
                have hM' := hM.alloc (.cells #[.string p.1, .string p.2] 48)
                go_wp2_with (refine wpList_load_at rfl 48 _ rfl ⟨bb, bo + k * 2, none⟩ rfl #[.string p.1, .string p.2] _ HW.out Tryd.underlying48 rfl (cl_info p) ?_)
                refine (comesBack_c b c u p.1 _ hM' HU.out hs1 (by omega)).mono ?_; rintro e w3 ⟨rfl, rfl⟩
                cases hcb : cbB u c p.1 with
                | true =>
                  have HN : Hid (clErr l = 14) := Lib.hid (by rw [HH.out, if_pos (any_of_at _ l k p HP.out hcb)])
                  clear hcb
                  go_wp2_with fail
                  go_ret
                  exact ⟨ret_int HN.out.symm, hG.alloc _⟩
                | false =>
                  have HN : Hid ((l.take (k + 1)).any (fun p => cbB u c p.1) = false) := Lib.hid (by rw [take_snoc' l k p HP.out, List.any_append, HA.out, List.any_cons, hcb]; rfl)
                  clear hcb
                  go_wp2_with fail
                  go_roundw
                  case rel => exact ⟨k + 1, by omega, by go_num, HN.out, hM', hG.alloc _⟩
                  case measure => simp [intOf]; omega
            · obtain rfl : k = l.length := by omega
              rw [List.take_length] at HA
              have HN : Hid (clErr l = 0) := Lib.hid (by rw [HH.out, if_neg (by simp [HA.out])])
              go_wp2_with fail
              go_ret
              exact ⟨ret_int HN.out.symm, hG⟩
    · have H := Lib.hid (show clErr l = ckErr ⟨#[]⟩ l by simp [clErr, h30, hck])
      have h1 : (ckErr ⟨#[]⟩ l != 0) = true := by rw [bne_iff_ne]; exact hck
      clear hck
      have HR := Lib.hid hr
      obtain ⟨a, cap, rfl, hcap, hm, hlen, hnil, hcell⟩ := hr
      go_enter Tryd.func12, Tryd.ntmps12
      go_wp2_with fail
      refine (checkClassKeys_c _ l _ HR.out hl hn).mono ?_; rintro e w1 ⟨rfl, hG1⟩
      go_wp2_with fail
      go_ret
      exact ⟨ret_int H.out.symm, hG1⟩
end Go.Proofs.YtjjgohainbjecaaDoor
