/- The reference's Ups, StepsOf. -/
import Derived.Test.YtjjgohainbjecaaDoorIxf
import Derived.Test.YtjjgohainbjecaaDoorAbv
import Derived.Laws.AppendOwnNone
namespace Go.Proofs.YtjjgohainbjecaaDoor
open Go.RowKit

theorem clAt_rise {l : List Cla} (hr : Rise (ksC l)) (s : ByteArray) : (clAt l s = -1 ∧ upS l s = none) ∨ ∃ (i : Nat) (p : Cla), clAt l s = (i : Int) ∧ l[i]? = some p ∧ upS l s = some p.2 := by
  rcases clAt_spec l s with h | ⟨i, p, h1, h2, h3⟩
  · exact .inl h
  · refine .inr ⟨i, p, h1, h2, ?_⟩
    rw [← h3]
    exact upS_at hr (List.mem_of_getElem? h2)
theorem upsK_none {u : Up} {s : ByteArray} (h : u s = none) (n : Nat) : upsK u n s = [] := by
  cases n with
  | zero => rfl
  | succ n => unfold upsK; rw [h]
theorem upsK_empty {u : Up} {s t : ByteArray} (h : u s = some t) (ht : t.toList.isEmpty = true) (n : Nat) : upsK u n s = [] := by
  cases n with
  | zero => rfl
  | succ n => unfold upsK; rw [h]; exact if_pos ht
theorem upsK_next {u : Up} {s t : ByteArray} (h : u s = some t) (ht : t.toList.isEmpty = false) (n : Nat) : upsK u (n + 1) s = t :: upsK u n t := by
  show (match u s with | none => [] | some t => if t.toList.isEmpty = true then [] else t :: upsK u n t) = _
  rw [h]
  exact if_neg (by simp [ht])
def UprRel (w : World) (l : List Cla) (key : ByteArray) (kx : Nat) (s5 s6 : Value) (wr : World) : Prop :=
  ∃ (s : ByteArray) (acc : List ByteArray), s6 = .int .i64 (clAt l s) ∧ OwnSs wr w.heap.size s5 acc ∧ upsK (upS l) (l.length + 1) key = acc ++ upsK (upS l) (l.length + 1 - acc.length) s ∧ acc.length ≤ l.length + 1 ∧ l.length + 1 - acc.length ≤ kx ∧ G w wr none
def SsPost (l : List ByteArray) (w : World) (e : Ending) (w' : World) : Prop := ∃ v, e = .returned v ∧ OwnSs w' w.heap.size v l ∧ G w w' none
theorem OwnSs.low {w : World} {base b' : Nat} {v : Value} {l : List ByteArray} (h : OwnSs w base v l) (hb : b' ≤ base) : OwnSs w b' v l := by
  obtain ⟨h1, h2⟩ := h
  rcases h2 with ⟨rfl, h3⟩ | ⟨g, cap, cur, rfl, h3, h4, h5, h6, h7, h8⟩
  · exact ⟨h1, .inl ⟨rfl, h3⟩⟩
  · exact ⟨h1, .inr ⟨g, cap, cur, rfl, Nat.le_trans hb h3, h4, h5, h6, h7, h8⟩⟩
/-- A row of what is written out, just laid. -/
theorem OwnSs.new (w : World) (l : List ByteArray) (hl : l.length ≤ 1000) {b : Nat} (hb : w.heap.size = b) : OwnSs (w.alloc (.cells (l.map Value.string).toArray 9)) b (.slice (some ⟨b, 0, none⟩) l.length l.length) l := by
  subst hb
  refine ⟨by simp, .inr ⟨_, _, _, rfl, Nat.le_refl _, heap_alloc_new w _, Nat.le_refl _, by unfold maxLen; omega, by simp, by simp [← List.map_take]⟩⟩
theorem wpList_append_rd {w : World} {ops : Array Oper} {rest : List Oper} {o : Oper} {a : Act} {Q : Exit → Act → World → Prop} (hgd : o.guard = none) (s x : Operand)
    (ho : o.op = .call { callee := .builtin .append, args := #[s, x], argTypes := #[29, 29] }) (base : Nat) (v : Value) (l : List ByteArray) (hs : a.eval s = v) (hown : OwnSs w base v l)
    (xv : Value) (r : List ByteArray) (hx : a.eval x = xv) (hr : RdS w xv r) (hl : l.length + r.length ≤ 1000) (hbase : base ≤ w.heap.size)
    (hK : ∀ v' w', OwnSs w' base v' (l ++ r) → w.grownBy w' v.ownBlock → wpList Tryd.prog ops Q rest (a.put o.dst v') w') : wpList Tryd.prog ops Q (o :: rest) a w := by
  obtain ⟨i0, hi, hz0, hz1, hz2⟩ := info_parts ss_row
  obtain ⟨ad, cap, rfl, h1, h2, h3, h4, h5⟩ := hr
  cases ad with
  | none =>
    obtain ⟨e1, e2⟩ := h4 rfl
    obtain rfl := List.length_eq_zero_iff.1 e1
    subst e2
    refine wpList_append_own_none hgd s x 29 ho base 9 i0 1 Tryd.underlying29 hi v l.length (l.map Value.string) hs hown hx ?_
    refine hK v w ?_ (World.grownBy.refl _ _)
    rw [List.append_nil]
    exact hown
  | some ad =>
    obtain ⟨bb, bo, bs⟩ := ad
    obtain ⟨q1, q2, q3⟩ := h5 _ rfl
    dsimp only at q1 q2 q3
    subst q1
    refine wpList_append_own w hgd s x 29 ho base 9 i0 _ 1 16 Tryd.underlying29 hi hz0 hz1 hz2 rfl (by decide) v l.length (l.map Value.string) hs hown ⟨bb, bo, none⟩ r.length cap (r.map Value.string) hx h3 (fun j u hj => by rw [add_at]; exact q3 j u hj) (fun u hu => by obtain ⟨t, _, rfl⟩ := List.mem_map.1 hu; rfl) (by unfold maxLen; omega) (by omega) hbase ?_
    intro v' w' k1 k2 _
    refine hK v' w' ?_ k2
    unfold OwnSs
    rw [List.length_append, List.map_append]
    exact k1
set_option maxRecDepth 100000 in
set_option maxHeartbeats 4000000 in
theorem ups_c (v : Value) (l : List Cla) (key : ByteArray) (w : World) (hr : Rd w 2 v l.length (clL l)) (hn : l.length ≤ 100) (hri : Rise (ksC l)) :
    Calls Tryd.prog 14 #[v, .string key] w (SsPost (upsK (upS l) (l.length + 1) key) w) := by
  have HV := Lib.hid hr
  have HRI := Lib.hid hri
  obtain ⟨a, cap, rfl, hcap, hm, hlen, hnil, hcell⟩ := hr
  clear hri
  go_enter Tryd.func14, Tryd.ntmps14
  go_wp2_with fail
  refine (classAt_c _ l key _ HV.out (by omega)).mono ?_; rintro e w1 ⟨rfl, hG1⟩
  go_wp2_with fail
  go_loopg [5, 6] (l.length + 1) (UprRel w l key)
  case atStart => exact ⟨key, [], rfl, World.ownsRow_nil _ _ _ _, rfl, by simp, by simp, hG1⟩
  case round =>
    clear hG1
    obtain ⟨s, acc, rfl, hown, hups, hal, hakx, hG⟩ := hrel
    have HUP := Lib.hid hups
    clear hups
    rcases clAt_rise HRI.out s with ⟨hc, hu⟩ | ⟨i, p, hc, hp, hu⟩
    · rw [hc]
      have HF : Hid (upsK (upS l) (l.length + 1) key = acc) := Lib.hid (by rw [HUP.out, upsK_none hu, List.append_nil])
      clear hc hu
      go_wp2_with fail
      go_ret
      exact ⟨_, rfl, by rw [HF.out]; exact hown, hG⟩
    · rw [hc]
      have hil := (List.getElem?_eq_some_iff.1 hp).1
      cases a with
      | none => have := (hnil rfl).1; omega
      | some ad =>
        obtain ⟨bb, bo, bs⟩ := ad
        obtain ⟨e1, e2, e3⟩ := hcell _ rfl
        dsimp only at e1 e2 e3
        subst e1
        have hc2 : wr.cell? ⟨bb, bo + i * 2 + 1, none⟩ = some (.string p.2) := by
          have h1 := e3 (i * 2 + 1) (.string p.2) (clL_at l i p hp 1 _ rfl)
          rw [← Nat.add_assoc] at h1
          exact ((gcell hG).1 bb _ e2).trans h1
        have HV2 := HV.out.quiet hG
        have HC := Lib.hid hcell
        have HN := Lib.hid hnil
        clear hcell e3 hnil hp hc
        cases hem : p.2.toList.isEmpty with
        | true =>
          have HF : Hid (upsK (upS l) (l.length + 1) key = acc) := Lib.hid (by rw [HUP.out, upsK_empty hu hem, List.append_nil])
          clear hu
          go_wp2_with fail
          go_ret
          exact ⟨_, rfl, by rw [HF.out]; exact hown, hG⟩
        | false =>
          have hl5 : ∃ a5 c5, u5 = .slice a5 acc.length c5 := by obtain ⟨a5, c5, e5, _⟩ := OwnSs.rd hown; exact ⟨a5, c5, e5⟩
          obtain ⟨a5, c5, rfl⟩ := hl5
          by_cases hal2 : acc.length ≤ l.length
          · have HF : Hid (upsK (upS l) (l.length + 1) key = (acc ++ [p.2]) ++ upsK (upS l) (l.length + 1 - (acc ++ [p.2]).length) p.2) := Lib.hid (by
              rw [HUP.out, show l.length + 1 - acc.length = (l.length - acc.length) + 1 by omega, upsK_next hu hem, List.append_assoc]
              rw [show l.length + 1 - (acc ++ [p.2]).length = l.length - acc.length by simp]
              rfl)
            have hob := fun r e => (World.ownsRow.lt hown r e).1
            have hsz := hG.size
            have hb2 : bb < wr.heap.size := by omega
            have hbo : ∀ r, (Value.slice a5 acc.length c5).ownBlock = some r → bb ≠ r := fun r e => by have := hob r e; omega
            clear hu
            go_wp2_with (at_builtin; refine wpList_append_ss rfl _ _ rfl w.heap.size _ acc rfl (hown.alloc _) wr.heap.size p.2 rfl (Bk.newAt rfl _ _) (by omega) (by simp; omega) ?_; intro v' w' hown' hgrow; have hG' := (hG.alloc (.cells #[.string p.2] 9)).other hgrow fun j e => .inl (hob j e); have hc3 : w'.cell? ⟨bb, bo + i * 2 + 1, none⟩ = some (.string p.2) := (World.cell?_of_block (w := wr) ((hgrow.block bb (by simp; omega) (fun e => hbo _ e.symm rfl)).trans (Below.heap_alloc wr _ bb hb2))).trans hc2)
            refine (classAt_c _ l p.2 _ (HV.out.quiet hG') (by omega)).mono ?_; rintro e w2 ⟨rfl, hG2⟩
            go_wp2_with fail
            go_roundg (l.length + 1 - (acc.length + 1))
            case measure => omega
            case rel => exact ⟨p.2, acc ++ [p.2], rfl, OwnSs.quiet hown' hG2, HF.out, by simp; omega, by simp, hG'.trans hG2⟩
          · have HF : Hid (upsK (upS l) (l.length + 1) key = acc) := Lib.hid (by rw [HUP.out, show l.length + 1 - acc.length = 0 by omega]; show acc ++ [] = acc; rw [List.append_nil])
            clear hu
            go_wp2_with fail
            go_ret
            exact ⟨_, rfl, by rw [HF.out]; exact hown, hG⟩
set_option maxRecDepth 100000 in
set_option maxHeartbeats 4000000 in
theorem stepsOf_c (v : Value) (l : List Cla) (want have_ : ByteArray) (w : World) (hr : Rd w 2 v l.length (clL l)) (hn : l.length ≤ 100) (hri : Rise (ksC l)) :
    Calls Tryd.prog 16 #[v, .string want, .string have_] w fun e w' => e = .returned (.tuple #[.int .i64 (max 0 (spI l want have_)), .bool (decide (0 ≤ spI l want have_))]) ∧ G w w' none := by
  have HV := Lib.hid (hr.quiet ((G.refl w none).alloc (.cells #[.string want] 9)))
  have HI : Hid (spI l want have_ = idxF have_ (want :: upsK (upS l) (l.length + 1) want) 0) := Lib.hid rfl
  have hO := OwnSs.new w [want] (by simp) rfl
  have hul := upsK_len (upS l) (l.length + 1) want
  clear hr
  generalize spI l want have_ = x at HI
  go_enter Tryd.func16, Tryd.ntmps16
  go_wp2_with fail
  refine (ups_c v l want _ HV.out hn hri).mono ?_; rintro e w1 ⟨y, rfl, hown, hG1⟩
  have hO1 := OwnSs.quiet hO hG1
  have hG01 := ((G.refl w none).alloc (.cells #[.string want] 9)).trans hG1
  have hy := OwnSs.rd hown
  have hob := fun r e => (World.ownsRow.lt hO1 r e).1
  clear hown hO hG1
  have hsz := hG01.size
  go_wp2_with (at_builtin; refine wpList_append_rd rfl _ _ rfl w.heap.size _ [want] rfl hO1 y (upsK (upS l) (l.length + 1) want) rfl hy (by simp; omega) hsz ?_; intro v' w' hown' hgrow)
  refine (sIndex_c v' (want :: upsK (upS l) (l.length + 1) want) have_ w' (OwnSs.rd hown') (by simp only [List.length_cons]; omega)).mono ?_; rintro e w' ⟨rfl, rfl⟩
  rw [← HI.out]
  have hG2 := hG01.other hgrow fun j e => .inl (hob j e)
  clear hown' hgrow hob hO1 hG01 hy
  go_wp2_with fail
  all_goals go_ret2
  all_goals exact ⟨by first | rfl | (rw [decide_eq_true (by assumption)]; rfl), hG2⟩
end Go.Proofs.YtjjgohainbjecaaDoor
