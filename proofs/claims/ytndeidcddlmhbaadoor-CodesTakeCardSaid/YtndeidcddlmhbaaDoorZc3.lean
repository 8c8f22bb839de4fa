/- Cdk, Tim, Cdb, Cdf, Cde. -/
import Derived.Test.YtndeidcddlmhbaaDoorZc2
import Derived.Test.YtndeidcddlmhbaaDoorZc1
import Derived.Deep.RegionHeld3
/- Codes: closures, ContainsFunc, checkAsked, the reference's CodeKeysFault. -/
namespace Go.Proofs.YtndeidcddlmhbaaDoor
open Go.RowKit

def cdHas (l : List Cd) (t : ByteArray) : Bool := l.any fun x => eqB x.1 t
/-- What a closure of codes must say: that the key is that of its cell. -/
def ClosOk (F : FuncId) (t : ByteArray) (g : Nat) : Prop := ∀ (p : Cd) (w : World), Bk w g 9 #[.string t] → Calls Tryd.prog F #[.agg (cdC p), .pointer (some ⟨g, 0, none⟩)] w fun e w' => e = .returned (.bool (eqB p.1 t)) ∧ G w w' none
theorem clos1_c (t : ByteArray) (g : Nat) : ClosOk 148 t g := by
  intro p w hB
  have hc : (w.alloc (.cells (cdC p) 157)).cell? ⟨w.heap.size, 0, none⟩ = some (.string p.1) := (Bk.new w 157 (cdC p)).cell 0
  have hc2 : (w.alloc (.cells (cdC p) 157)).cell? ⟨g, 0, none⟩ = some (.string t) := (hB.alloc (.cells (cdC p) 157)).cell 0
  cases he : eqB p.1 t with
  | true =>
    unfold eqB at he
    go_enter Tryd.func148, Tryd.ntmps148
    go_wp2_with fail
    go_ret
    exact ⟨rfl, (G.refl _ _).alloc _⟩
  | false =>
    unfold eqB at he
    go_enter Tryd.func148, Tryd.ntmps148
    go_wp2_with fail
    go_ret
    exact ⟨rfl, (G.refl _ _).alloc _⟩
theorem clos2_c (t : ByteArray) (g : Nat) : ClosOk 110 t g := by
  intro p w hB
  have hc : (w.alloc (.cells (cdC p) 157)).cell? ⟨w.heap.size, 0, none⟩ = some (.string p.1) := (Bk.new w 157 (cdC p)).cell 0
  have hc2 : (w.alloc (.cells (cdC p) 157)).cell? ⟨g, 0, none⟩ = some (.string t) := (hB.alloc (.cells (cdC p) 157)).cell 0
  cases he : eqB p.1 t with
  | true =>
    unfold eqB at he
    go_enter Tryd.func110, Tryd.ntmps110
    go_wp2_with fail
    go_ret
    exact ⟨rfl, (G.refl _ _).alloc _⟩
  | false =>
    unfold eqB at he
    go_enter Tryd.func110, Tryd.ntmps110
    go_wp2_with fail
    go_ret
    exact ⟨rfl, (G.refl _ _).alloc _⟩
def cdAt (l : List Cd) (t : ByteArray) : Int := ixP (fun p : Cd => eqB p.1 t) l 0
def CdaRel (w : World) (l : List Cd) (t : ByteArray) (i : Value) (wr : World) : Prop :=
  ∃ k : Nat, k ≤ l.length ∧ i = .int .i64 k ∧ cdAt l t = ixP (fun p : Cd => eqB p.1 t) (l.drop k) k ∧ G w wr none
set_option maxRecDepth 100000 in
set_option maxHeartbeats 2000000 in
theorem cdIndex1_c (v : Value) (l : List Cd) (t : ByteArray) (g : Nat) (w : World) (hF : ClosOk 148 t g) (hr : RdR w 6 cdC v l) (hn : l.length ≤ 1000) (hB : Bk w g 9 #[.string t]) :
    Calls Tryd.prog 152 #[v, .func (.func 148) #[] #[.pointer (some ⟨g, 0, none⟩)]] w fun e w' => e = .returned (.int .i64 (cdAt l t)) ∧ G w w' none := by
  have HR := Lib.hid hr
  have HFF := Lib.hid hF
  obtain ⟨a, cap, rfl, hcap, hm⟩ := RdR.form hr
  clear hr hF
  go_enter Tryd.func152, Tryd.ntmps152
  go_wp2_with fail
  go_loopw [8] (CdaRel w l t) (fun i _ => l.length - (intOf i).toNat)
  case atStart => exact ⟨0, by omega, rfl, rfl, G.refl _ _⟩
  case round =>
    obtain ⟨k, hk, rfl, heq, hG⟩ := hrel
    have HE := Lib.hid heq
    clear heq
    by_cases hlt : k < l.length
    · obtain ⟨p, hp⟩ : ∃ p, l[k]? = some p := ⟨_, List.getElem?_eq_getElem hlt⟩
      have HD : Hid (cdAt l t = if eqB p.1 t = true then (k : Int) else ixP (fun p : Cd => eqB p.1 t) (l.drop (k + 1)) ((k : Int) + 1)) := Lib.hid (by
        rw [HE.out, List.drop_eq_getElem_cons hlt, (List.getElem?_eq_some_iff.1 hp).2]; rfl)
      obtain ⟨bb, bo, rfl, hbb, _⟩ := RdR.elem cdC_sz HR.out hG hp
      have HW := Lib.hid (cdRow HR.out hG hp)
      clear hp
      go_wp2_with (refine wpList_load_at rfl 157 _ rfl ⟨bb, bo + k * 6, none⟩ rfl (cdC p) _ HW.out Tryd.underlying157 rfl (cd_info p) ?_)
      refine (HFF.out p _ (hB.quiet hG)).mono ?_; rintro e w1 ⟨rfl, hG1⟩
      cases he : eqB p.1 t with
      | true =>
        have HF : Hid (cdAt l t = k) := Lib.hid (by rw [HD.out, if_pos he])
        clear he
        go_wp2_with fail
        go_ret
        exact ⟨ret_int HF.out.symm, hG.trans hG1⟩
      | false =>
        have HF : Hid (cdAt l t = ixP (fun p : Cd => eqB p.1 t) (l.drop (k + 1)) ((k + 1 : Nat) : Int)) := Lib.hid (by rw [HD.out, if_neg (by simp [he])]; rfl)
        clear he
        go_wp2_with fail
        go_roundw
        case rel => exact ⟨k + 1, by omega, by go_num, HF.out, hG.trans hG1⟩
        case measure => simp [intOf]; omega
    · obtain rfl : k = l.length := by omega
      have HF : Hid (cdAt l t = -1) := Lib.hid (by rw [HE.out, List.drop_length]; rfl)
      go_wp2_with fail
      go_ret
      exact ⟨ret_int HF.out.symm, hG⟩
set_option maxRecDepth 100000 in
set_option maxHeartbeats 2000000 in
theorem cdIndex2_c (v : Value) (l : List Cd) (t : ByteArray) (g : Nat) (w : World) (hF : ClosOk 110 t g) (hr : RdR w 6 cdC v l) (hn : l.length ≤ 1000) (hB : Bk w g 9 #[.string t]) :
    Calls Tryd.prog 152 #[v, .func (.func 110) #[] #[.pointer (some ⟨g, 0, none⟩)]] w fun e w' => e = .returned (.int .i64 (cdAt l t)) ∧ G w w' none := by
  have HR := Lib.hid hr
  have HFF := Lib.hid hF
  obtain ⟨a, cap, rfl, hcap, hm⟩ := RdR.form hr
  clear hr hF
  go_enter Tryd.func152, Tryd.ntmps152
  go_wp2_with fail
  go_loopw [8] (CdaRel w l t) (fun i _ => l.length - (intOf i).toNat)
  case atStart => exact ⟨0, by omega, rfl, rfl, G.refl _ _⟩
  case round =>
    obtain ⟨k, hk, rfl, heq, hG⟩ := hrel
    have HE := Lib.hid heq
    clear heq
    by_cases hlt : k < l.length
    · obtain ⟨p, hp⟩ : ∃ p, l[k]? = some p := ⟨_, List.getElem?_eq_getElem hlt⟩
      have HD : Hid (cdAt l t = if eqB p.1 t = true then (k : Int) else ixP (fun p : Cd => eqB p.1 t) (l.drop (k + 1)) ((k : Int) + 1)) := Lib.hid (by
        rw [HE.out, List.drop_eq_getElem_cons hlt, (List.getElem?_eq_some_iff.1 hp).2]; rfl)
      obtain ⟨bb, bo, rfl, hbb, _⟩ := RdR.elem cdC_sz HR.out hG hp
      have HW := Lib.hid (cdRow HR.out hG hp)
      clear hp
      go_wp2_with (refine wpList_load_at rfl 157 _ rfl ⟨bb, bo + k * 6, none⟩ rfl (cdC p) _ HW.out Tryd.underlying157 rfl (cd_info p) ?_)
      refine (HFF.out p _ (hB.quiet hG)).mono ?_; rintro e w1 ⟨rfl, hG1⟩
      cases he : eqB p.1 t with
      | true =>
        have HF : Hid (cdAt l t = k) := Lib.hid (by rw [HD.out, if_pos he])
        clear he
        go_wp2_with fail
        go_ret
        exact ⟨ret_int HF.out.symm, hG.trans hG1⟩
      | false =>
        have HF : Hid (cdAt l t = ixP (fun p : Cd => eqB p.1 t) (l.drop (k + 1)) ((k + 1 : Nat) : Int)) := Lib.hid (by rw [HD.out, if_neg (by simp [he])]; rfl)
        clear he
        go_wp2_with fail
        go_roundw
        case rel => exact ⟨k + 1, by omega, by go_num, HF.out, hG.trans hG1⟩
        case measure => simp [intOf]; omega
    · obtain rfl : k = l.length := by omega
      have HF : Hid (cdAt l t = -1) := Lib.hid (by rw [HE.out, List.drop_length]; rfl)
      go_wp2_with fail
      go_ret
      exact ⟨ret_int HF.out.symm, hG⟩
theorem cdAt_has (l : List Cd) (t : ByteArray) : (cdAt l t = -1 ∧ cdHas l t = false) ∨ (0 ≤ cdAt l t ∧ cdHas l t = true) := by
  rcases ixP_spec (fun p : Cd => eqB p.1 t) l 0 with ⟨h1, h2⟩ | ⟨i, p, h1, h2, h3⟩
  · exact .inl ⟨h1, h2⟩
  · refine .inr ⟨?_, List.any_eq_true.2 ⟨p, List.mem_of_getElem? h2, h3⟩⟩
    have e : cdAt l t = ((0 + i : Nat) : Int) := h1
    omega
set_option maxRecDepth 100000 in
theorem cdContains1_c (v : Value) (l : List Cd) (t : ByteArray) (g : Nat) (w : World) (hF : ClosOk 148 t g) (hr : RdR w 6 cdC v l) (hn : l.length ≤ 1000) (hB : Bk w g 9 #[.string t]) :
    Calls Tryd.prog 109 #[v, .func (.func 148) #[] #[.pointer (some ⟨g, 0, none⟩)]] w fun e w' => e = .returned (.bool (cdHas l t)) ∧ G w w' none := by
  have HX := Lib.hid (cdIndex1_c v l t g w hF hr hn hB)
  have hh := cdAt_has l t
  clear hF hr hB
  generalize cdAt l t = x at hh HX
  rcases hh with ⟨hx, hb⟩ | ⟨hx, hb⟩
  · rw [hb]
    clear hb
    go_enter Tryd.func109, Tryd.ntmps109
    go_wp2_with fail
    refine HX.out.mono ?_; rintro e w1 ⟨rfl, hG1⟩
    subst hx
    go_wp2_with fail
    go_ret
    exact ⟨rfl, hG1⟩
  · rw [hb]
    clear hb
    go_enter Tryd.func109, Tryd.ntmps109
    go_wp2_with fail
    refine HX.out.mono ?_; rintro e w1 ⟨rfl, hG1⟩
    go_wp2_with fail
    go_ret
    exact ⟨rfl, hG1⟩
set_option maxRecDepth 100000 in
theorem cdContains2_c (v : Value) (l : List Cd) (t : ByteArray) (g : Nat) (w : World) (hF : ClosOk 110 t g) (hr : RdR w 6 cdC v l) (hn : l.length ≤ 1000) (hB : Bk w g 9 #[.string t]) :
    Calls Tryd.prog 109 #[v, .func (.func 110) #[] #[.pointer (some ⟨g, 0, none⟩)]] w fun e w' => e = .returned (.bool (cdHas l t)) ∧ G w w' none := by
  have HX := Lib.hid (cdIndex2_c v l t g w hF hr hn hB)
  have hh := cdAt_has l t
  clear hF hr hB
  generalize cdAt l t = x at hh HX
  rcases hh with ⟨hx, hb⟩ | ⟨hx, hb⟩
  · rw [hb]
    clear hb
    go_enter Tryd.func109, Tryd.ntmps109
    go_wp2_with fail
    refine HX.out.mono ?_; rintro e w1 ⟨rfl, hG1⟩
    subst hx
    go_wp2_with fail
    go_ret
    exact ⟨rfl, hG1⟩
  · rw [hb]
    clear hb
    go_enter Tryd.func109, Tryd.ntmps109
    go_wp2_with fail
    refine HX.out.mono ?_; rintro e w1 ⟨rfl, hG1⟩
    go_wp2_with fail
    go_ret
    exact ⟨rfl, hG1⟩
/-- The error of keys that were asked for. -/
def askErr (l : List Cd) (seen : List ByteArray) : List ByteArray → Int
  | [] => 0
  | k :: r => if cdHas l k = false then 8 else if hasK seen k = true then 6 else askErr l (seen ++ [k]) r
def askE (l : List Cd) (ks : List ByteArray) : Int := if 10 < ks.length then 2 else askErr l [] ks
def AskRel (w : World) (l : List Cd) (ks : List ByteArray) (i : Value) (wr : World) : Prop :=
  ∃ k : Nat, k ≤ ks.length ∧ i = .int .i64 k ∧ askErr l [] ks = askErr l (ks.take k) (ks.drop k) ∧ G w wr none
theorem take_snoc_s {l : List ByteArray} {k : Nat} {p : ByteArray} (hp : l[k]? = some p) : l.take (k + 1) = l.take k ++ [p] := by
  have hk : k < l.length := (List.getElem?_eq_some_iff.1 hp).1
  rw [List.take_succ_eq_append_getElem hk, (List.getElem?_eq_some_iff.1 hp).2]
set_option maxRecDepth 100000 in
theorem known_c (v : Value) (l : List Cd) (t : ByteArray) (g : Nat) (w : World) (hr : RdR w 6 cdC v l) (hn : l.length ≤ 1000) (hB : Bk w g 86 #[v]) :
    Calls Tryd.prog 147 #[.string t, .pointer (some ⟨g, 0, none⟩)] w fun e w' => e = .returned (.bool (cdHas l t)) ∧ G w w' none := by
  have hmf : ∀ (fn : Go.Fn) (first cap : Array Value) (w : World), (Instr.makeFunc fn first cap).run Tryd.prog w = .ok (.func fn first cap) w := fun _ _ _ _ => rfl
  have HR := Lib.hid (hr.quiet ((G.refl w none).alloc (.cells #[.string t] 9)))
  have hc : (w.alloc (.cells #[.string t] 9)).cell? ⟨g, 0, none⟩ = some v := (hB.alloc (.cells #[.string t] 9)).cell 0
  have hc0 : w.cell? ⟨g, 0, none⟩ = some v := hB.cell 0
  have hg := hB.lt
  clear hr hB
  go_enter Tryd.func147, Tryd.ntmps147
  go_wp2_with fail
  refine (cdContains1_c v l t w.heap.size _ (clos1_c t _) HR.out hn (Bk.new w _ _)).mono ?_; rintro e w1 ⟨rfl, hG1⟩
  go_wp2_with fail
  go_ret
  exact ⟨rfl, ((G.refl w none).alloc _).trans hG1⟩
set_option maxRecDepth 100000 in
set_option maxHeartbeats 4000000 in
theorem checkAsked_c (v u : Value) (l : List Cd) (ks : List ByteArray) (g : Nat) (w : World) (hr : RdR w 6 cdC v l) (hn : l.length ≤ 1000) (hB : Bk w g 86 #[v]) (hs : RdS w u ks) (hk1 : ks.length ≤ 1000) :
    Calls Tryd.prog 149 #[u, .func (.func 147) #[] #[.pointer (some ⟨g, 0, none⟩)]] w fun e w' => e = .returned (.int .i64 (askE l ks)) ∧ G w w' none := by
  have HR := Lib.hid hr
  have HS := Lib.hid hs
  have HBB := Lib.hid hB
  obtain ⟨a, cap, rfl, hcap, hm, hlen, hnil, _⟩ := hs
  clear hr hB hlen
  by_cases h10 : 10 < ks.length
  · have H := Lib.hid (show askE l ks = 2 by simp [askE, h10])
    go_enter Tryd.func149, Tryd.ntmps149
    go_wp2_with fail
    go_ret
    exact ⟨by rw [H.out]; rfl, G.refl _ _⟩
  · have H := Lib.hid (show askE l ks = askErr l [] ks by simp [askE, h10])
    go_enter Tryd.func149, Tryd.ntmps149
    go_wp2_with fail
    go_loopw [12] (AskRel w l ks) (fun i _ => ks.length - (intOf i).toNat)
    case atStart => exact ⟨0, by omega, rfl, rfl, G.refl _ _⟩
    case round =>
      obtain ⟨k, hkl, rfl, heq, hG⟩ := hrel
      have HE := Lib.hid heq
      clear heq
      by_cases hlt : k < ks.length
      · obtain ⟨t, ht⟩ : ∃ t, ks[k]? = some t := ⟨_, List.getElem?_eq_getElem hlt⟩
        have HD : Hid (askErr l [] ks = if cdHas l t = false then 8 else if hasK (ks.take k) t = true then 6 else askErr l (ks.take (k + 1)) (ks.drop (k + 1))) := Lib.hid (by
          rw [HE.out, List.drop_eq_getElem_cons hlt, (List.getElem?_eq_some_iff.1 ht).2, take_snoc_s ht]; rfl)
        cases a with
        | none => have := (hnil rfl).1; omega
        | some ad =>
          obtain ⟨bb, bo, rfl, hbb, hcell⟩ := rdS_cell HS.out
          have hc := ((gcell hG).1 bb (bo + k) hbb).trans (hcell k t ht)
          have HP := Lib.hid ((rdS_prefix HS.out k hkl).quiet hG)
          have hki : (k : Int) ≤ (ks.length : Int) := by omega
          have hk0 : (0 : Int) ≤ (k : Int) := by omega
          clear hcell ht HE
          go_wp2_with fail
          refine (known_c v l t g _ (HR.out.quiet hG) hn (HBB.out.quiet hG)).mono ?_; rintro e w1 ⟨rfl, hG1⟩
          have hG01 := hG.trans hG1
          have HP1 := Lib.hid (HP.out.quiet hG1)
          clear hG hc HP
          cases hh : cdHas l t with
          | false =>
            have HF : Hid (askE l ks = 8) := Lib.hid (by rw [H.out, HD.out, if_pos hh])
            clear hh HD
            go_wp2_with fail
            go_ret
            exact ⟨by rw [HF.out]; rfl, hG01⟩
          | true =>
            have HD2 : Hid (askErr l [] ks = if hasK (ks.take k) t = true then 6 else askErr l (ks.take (k + 1)) (ks.drop (k + 1))) := Lib.hid (by rw [HD.out, if_neg (by simp [hh])])
            clear hh HD
            go_wp2_with fail
            refine (sContains_c _ (ks.take k) t _ HP1.out (by rw [List.length_take]; omega)).mono ?_; rintro e w' ⟨rfl, rfl⟩
            cases hh : hasK (ks.take k) t with
            | true =>
              have HF : Hid (askE l ks = 6) := Lib.hid (by rw [H.out, HD2.out, if_pos hh])
              clear hh HD2
              go_wp2_with fail
              go_ret
              exact ⟨by rw [HF.out]; rfl, hG01⟩
            | false =>
              have HF : Hid (askErr l [] ks = askErr l (ks.take (k + 1)) (ks.drop (k + 1))) := Lib.hid (by rw [HD2.out, if_neg (by simp [hh])])
              clear hh HD2
              go_wp2_with fail
              go_roundw
              case rel => exact ⟨k + 1, by omega, by go_num, HF.out, hG01⟩
              case measure => simp [intOf]; omega
      · obtain rfl : k = ks.length := by omega
        have HF : Hid (askE l ks = 0) := Lib.hid (by rw [H.out, HE.out, List.drop_length]; rfl)
        go_wp2_with fail
        go_ret
        exact ⟨by rw [HF.out]; rfl, hG⟩
set_option maxRecDepth 100000 in
set_option maxHeartbeats 4000000 in
theorem codeKeysFault_c (v u : Value) (l : List Cd) (ks : List ByteArray) (w : World) (hr : RdR w 6 cdC v l) (hn : l.length ≤ 1000) (hs : RdS w u ks) (hk1 : ks.length ≤ 1000) :
    Calls Tryd.prog 56 #[v, u] w fun e w' => e = .returned (.int .i64 (askE l ks)) ∧ G w w' none := by
  have hmf : ∀ (fn : Go.Fn) (first cap : Array Value) (w : World), (Instr.makeFunc fn first cap).run Tryd.prog w = .ok (.func fn first cap) w := fun _ _ _ _ => rfl
  have HR := Lib.hid hr
  have HS := Lib.hid hs
  obtain ⟨a, cap, rfl, hcap, hm, hlen, hnil, _⟩ := hs
  clear hr hlen
  by_cases h10 : 10 < ks.length
  · have H := Lib.hid (show askE l ks = 2 by simp [askE, h10])
    go_enter Tryd.func56, Tryd.ntmps56
    go_wp2_with fail
    go_ret
    exact ⟨by rw [H.out]; rfl, G.refl _ _⟩
  · have H := Lib.hid (show askE l ks = askErr l [] ks by simp [askE, h10])
    go_enter Tryd.func56, Tryd.ntmps56
    go_wp2_with fail
    go_loopw [12] (AskRel w l ks) (fun i _ => ks.length - (intOf i).toNat)
    case atStart => exact ⟨0, by omega, rfl, rfl, G.refl _ _⟩
    case round =>
      obtain ⟨k, hkl, rfl, heq, hG⟩ := hrel
      have HE := Lib.hid heq
      clear heq
      by_cases hlt : k < ks.length
      · obtain ⟨t, ht⟩ : ∃ t, ks[k]? = some t := ⟨_, List.getElem?_eq_getElem hlt⟩
        have HD : Hid (askErr l [] ks = if cdHas l t = false then 8 else if hasK (ks.take k) t = true then 6 else askErr l (ks.take (k + 1)) (ks.drop (k + 1))) := Lib.hid (by
          rw [HE.out, List.drop_eq_getElem_cons hlt, (List.getElem?_eq_some_iff.1 ht).2, take_snoc_s ht]; rfl)
        cases a with
        | none => have := (hnil rfl).1; omega
        | some ad =>
          obtain ⟨bb, bo, rfl, hbb, hcell⟩ := rdS_cell HS.out
          have hc := ((gcell hG).1 bb (bo + k) hbb).trans (hcell k t ht)
          have hA := hG.alloc (.cells #[.string t] 9)
          have hN := Bk.new wr 9 #[.string t]
          have HP := Lib.hid ((rdS_prefix HS.out k hkl).quiet hA)
          have hki : (k : Int) ≤ (ks.length : Int) := by omega
          have hk0 : (0 : Int) ≤ (k : Int) := by omega
          clear hcell ht HE hG
          go_wp2_with fail
          refine (cdContains2_c v l t wr.heap.size _ (clos2_c t _) (HR.out.quiet hA) hn hN).mono ?_; rintro e w1 ⟨rfl, hG1⟩
          have hG01 := hA.trans hG1
          have HP1 := Lib.hid (HP.out.quiet hG1)
          have hN1 := hN.quiet hG1
          clear hA hc HP hG1 hN
          generalize wr.heap.size = g at hN1 ⊢
          have hct : w1.cell? ⟨g, 0, none⟩ = some (.string t) := hN1.cell 0
          clear hN1
          cases hh : cdHas l t with
          | false =>
            have HF : Hid (askE l ks = 8) := Lib.hid (by rw [H.out, HD.out, if_pos hh])
            clear hh HD
            go_wp2_with fail
            go_ret
            exact ⟨by rw [HF.out]; rfl, hG01⟩
          | true =>
            have HD2 : Hid (askErr l [] ks = if hasK (ks.take k) t = true then 6 else askErr l (ks.take (k + 1)) (ks.drop (k + 1))) := Lib.hid (by rw [HD.out, if_neg (by simp [hh])])
            clear hh HD
            go_wp2_with fail
            go_quiet ((go_at_call 107; exact Calls.quiet_of_same ((sContains_c _ (ks.take k) t _ (HP1.out.quiet ((G.refl w1 none).drewN _)) (by rw [List.length_take]; omega)).mono fun _ _ h => ⟨h.1, h.2.symm⟩)))
            have hGq := hG01.drewN nq
            cases hh : hasK (ks.take k) t with
            | true =>
              have HF : Hid (askE l ks = 6) := Lib.hid (by rw [H.out, HD2.out, if_pos hh])
              clear hh HD2
              go_wp2_with fail
              go_ret
              exact ⟨by rw [HF.out]; rfl, hGq⟩
            | false =>
              have HF : Hid (askErr l [] ks = askErr l (ks.take (k + 1)) (ks.drop (k + 1))) := Lib.hid (by rw [HD2.out, if_neg (by simp [hh])])
              clear hh HD2
              go_wp2_with fail
              go_roundw
              case rel => exact ⟨k + 1, by omega, by go_num, HF.out, hGq⟩
              case measure => simp [intOf]; omega
      · obtain rfl : k = ks.length := by omega
        have HF : Hid (askE l ks = 0) := Lib.hid (by rw [H.out, HE.out, List.drop_length]; rfl)
        go_wp2_with fail
        go_ret
        exact ⟨by rw [HF.out]; rfl, hG⟩
end Go.Proofs.YtndeidcddlmhbaaDoor

/- The time of a hire: Days, begun, TimeFault, DaysOf. -/
namespace Go.Proofs.YtndeidcddlmhbaaDoor
open Go.RowKit

def tE (a z : Int) : Int := if 0 ≤ a ∧ a < z ∧ z ≤ 5761439 then (if 172800 < z - a then 2 else 0) else 1
def tN (a z : Int) : Int := if tE a z = 0 then (z - a + 1439) / 1440 else 0
set_option maxRecDepth 100000 in
theorem begun_c (m : Int) (w : World) (h0 : 0 ≤ m) (h1 : m ≤ 5761439) : Calls Tryd.prog 100 #[.int .i64 m, .int .i64 1440] w fun e w' => e = .returned (.int .i64 ((m + 1439) / 1440)) ∧ w = w' := by
  have HF : Hid ((m + 1440 - 1) / 1440 = (m + 1439) / 1440) := Lib.hid (by omega)
  go_enter Tryd.func100, Tryd.ntmps100
  go_wp2_with fail
  go_ret
  exact ⟨ret_int HF.out, rfl⟩
set_option maxRecDepth 100000 in
set_option maxHeartbeats 2000000 in
theorem days_c (a z : Int) (w : World) (ha : bnd a) (hz : bnd z) : Calls Tryd.prog 44 #[.agg #[.int .i64 a, .int .i64 z]] w fun e w' => e = .returned (.tuple #[.int .i64 (tN a z), .int .i64 (tE a z)]) ∧ G w w' none := by
  unfold bnd at ha hz
  have hG : G w (w.alloc (.cells #[.int .i64 a, .int .i64 z] 29)) none := (G.refl w none).alloc _
  have hB := Bk.new w 29 #[.int .i64 a, .int .i64 z]
  by_cases h0 : 0 ≤ a ∧ a < z ∧ z < 5761440
  · obtain ⟨h1, h2, h3⟩ := h0
    have HI := Lib.hid (timB_yes ⟨h1, h2, h3⟩)
    have HT : Hid (tE a z = if 172800 < z - a then 2 else 0) := Lib.hid (by rw [tE, if_pos ⟨h1, h2, by omega⟩])
    have HD : Hid (tE a z = 0 → tN a z = (z - a + 1439) / 1440) := Lib.hid fun h => by rw [tN, if_pos h]
    have HD2 : Hid (tE a z ≠ 0 → tN a z = 0) := Lib.hid fun h => by rw [tN, if_neg h]
    go_enter Tryd.func44, Tryd.ntmps44
    go_wp2_with (refine wpList_load_row rfl 29 _ rfl w.heap.size rfl 29 #[.int .i64 a, .int .i64 z] (0, 0) _ hB Tryd.underlying29 rfl (wi_info a z) ?_)
    refine (isTime_c a z _).mono ?_; rintro e w1 ⟨rfl, hG1⟩
    rw [HI.out]
    have hB1 := hB.quiet hG1
    have hG01 := hG.trans hG1
    have c0 : w1.cell? ⟨w.heap.size, 0, none⟩ = some (.int .i64 a) := hB1.cell 0
    have c1 : w1.cell? ⟨w.heap.size, 1, none⟩ = some (.int .i64 z) := hB1.cell 1
    clear hB hG hG1
    rcases (show 172800 < z - a ∨ z - a ≤ 172800 by omega) with h4 | h4
    · have HE : Hid (tE a z = 2) := Lib.hid (by rw [HT.out, if_pos h4])
      have HN : Hid (tN a z = 0) := Lib.hid (HD2.out (by rw [HE.out]; decide))
      have h5 : 120 < (z - a + 1439) / 1440 := by omega
      go_wp2_with fail
      refine (begun_c _ _ (by omega) (by omega)).mono ?_; rintro e w' ⟨rfl, rfl⟩
      generalize (z - a + 1439) / 1440 = N at h5 ⊢
      go_wp2_with fail
      go_ret2
      exact ⟨by rw [HE.out, HN.out]; rfl, hG01⟩
    · have HE : Hid (tE a z = 0) := Lib.hid (by rw [HT.out, if_neg (by omega)])
      have HN : Hid (tN a z = (z - a + 1439) / 1440) := Lib.hid (HD.out HE.out)
      have h5 : (z - a + 1439) / 1440 ≤ 120 := by omega
      go_wp2_with fail
      refine (begun_c _ _ (by omega) (by omega)).mono ?_; rintro e w' ⟨rfl, rfl⟩
      generalize (z - a + 1439) / 1440 = N at h5 HN ⊢
      go_wp2_with fail
      go_ret2
      exact ⟨by rw [HE.out, HN.out]; rfl, hG01⟩
  · have HE : Hid (tE a z = 1) := Lib.hid (by rw [tE, if_neg (by omega)])
    have HN : Hid (tN a z = 0) := Lib.hid (by rw [tN, if_neg (by rw [HE.out]; decide)])
    have HI := Lib.hid (timB_no h0)
    clear h0
    go_enter Tryd.func44, Tryd.ntmps44
    go_wp2_with (refine wpList_load_row rfl 29 _ rfl w.heap.size rfl 29 #[.int .i64 a, .int .i64 z] (0, 0) _ hB Tryd.underlying29 rfl (wi_info a z) ?_)
    refine (isTime_c a z _).mono ?_; rintro e w1 ⟨rfl, hG1⟩
    rw [HI.out]
    go_wp2_with fail
    go_ret2
    exact ⟨by rw [HE.out, HN.out]; rfl, hG.trans hG1⟩
set_option maxRecDepth 100000 in
set_option maxHeartbeats 2000000 in
theorem timeFault_c (a z : Int) (w : World) (ha : bnd a) (hz : bnd z) : Calls Tryd.prog 41 #[.agg #[.int .i64 a, .int .i64 z]] w fun e w' => e = .returned (.int .i64 (tE a z)) ∧ G w w' none := by
  unfold bnd at ha hz
  have hG : G w (w.alloc (.cells #[.int .i64 a, .int .i64 z] 29)) none := (G.refl w none).alloc _
  rcases (show a < 0 ∨ (0 ≤ a ∧ z ≤ a) ∨ (0 ≤ a ∧ a < z ∧ 5761439 < z) ∨ (0 ≤ a ∧ a < z ∧ z ≤ 5761439) by omega) with h1 | ⟨h1, h2⟩ | ⟨h1, h2, h3⟩ | ⟨h1, h2, h3⟩
  · have HE : Hid (tE a z = 1) := Lib.hid (by rw [tE, if_neg (by omega)])
    go_enter Tryd.func41, Tryd.ntmps41
    go_wp2_with fail
    go_ret
    exact ⟨by rw [HE.out]; rfl, hG⟩
  · have HE : Hid (tE a z = 1) := Lib.hid (by rw [tE, if_neg (by omega)])
    go_enter Tryd.func41, Tryd.ntmps41
    go_wp2_with fail
    go_ret
    exact ⟨by rw [HE.out]; rfl, hG⟩
  · have HE : Hid (tE a z = 1) := Lib.hid (by rw [tE, if_neg (by omega)])
    go_enter Tryd.func41, Tryd.ntmps41
    go_wp2_with fail
    go_ret
    exact ⟨by rw [HE.out]; rfl, hG⟩
  · have HT : Hid (tE a z = if 172800 < z - a then 2 else 0) := Lib.hid (by rw [tE, if_pos ⟨h1, h2, h3⟩])
    rcases (show 172800 < z - a ∨ z - a ≤ 172800 by omega) with h4 | h4
    · have HE : Hid (tE a z = 2) := Lib.hid (by rw [HT.out, if_pos h4])
      go_enter Tryd.func41, Tryd.ntmps41
      go_wp2_with fail
      go_ret
      exact ⟨by rw [HE.out]; rfl, hG⟩
    · have HE : Hid (tE a z = 0) := Lib.hid (by rw [HT.out, if_neg (by omega)])
      go_enter Tryd.func41, Tryd.ntmps41
      go_wp2_with fail
      go_ret
      exact ⟨by rw [HE.out]; rfl, hG⟩
theorem tE_zero {a z : Int} (h : tE a z = 0) : 0 ≤ a ∧ a < z ∧ z ≤ 5761439 ∧ z - a ≤ 172800 := by
  unfold tE at h
  split at h
  · split at h
    · omega
    · omega
  · omega
def DofRel (w : World) (a z : Int) (s3 s4 : Value) (wr : World) : Prop :=
  ∃ j : Nat, s3 = .int .i64 j ∧ s4 = .int .i64 (a + 1440 * j) ∧ (j : Int) ≤ (z - a + 1439) / 1440 ∧ Bk wr w.heap.size 29 #[.int .i64 a, .int .i64 z] ∧ G w wr none
set_option maxRecDepth 100000 in
set_option maxHeartbeats 2000000 in
theorem daysOf_c (a z : Int) (w : World) (h : tE a z = 0) : Calls Tryd.prog 48 #[.agg #[.int .i64 a, .int .i64 z]] w fun e w' => e = .returned (.int .i64 (tN a z)) ∧ G w w' none := by
  have HN : Hid (tN a z = (z - a + 1439) / 1440) := Lib.hid (by rw [tN, if_pos h])
  obtain ⟨h1, h2, h3, h4⟩ := tE_zero h
  clear h
  go_enter Tryd.func48, Tryd.ntmps48
  go_wp2_with fail
  go_loopw [3, 4] (DofRel w a z) (fun s _ _ => ((z - a + 1439) / 1440).toNat - (intOf s).toNat)
  case atStart => exact ⟨0, rfl, by go_num, by omega, Bk.new w _ _, (G.refl _ _).alloc _⟩
  case round =>
    obtain ⟨j, rfl, rfl, hj, hB, hG⟩ := hrel
    have c0 : wr.cell? ⟨w.heap.size, 0, none⟩ = some (.int .i64 a) := hB.cell 0
    have c1 : wr.cell? ⟨w.heap.size, 1, none⟩ = some (.int .i64 z) := hB.cell 1
    by_cases hlt : a + 1440 * (j : Int) < z
    · go_wp2_with fail
      go_roundw
      case rel => exact ⟨j + 1, by go_num, by go_num, by omega, hB, hG⟩
      case measure => simp [intOf]; omega
    · have hjn : (j : Int) = (z - a + 1439) / 1440 := by omega
      go_wp2_with fail
      go_ret
      exact ⟨by rw [HN.out, ← hjn]; rfl, hG⟩
end Go.Proofs.YtndeidcddlmhbaaDoor

/- Codes: counts, checkBestCode, BestCode. -/
namespace Go.Proofs.YtndeidcddlmhbaaDoor
open Go.RowKit

/-- That a code counts for a class, on a day, for so many days. -/
def cdCnt (x : Cd) (k : ByteArray) (day n : Int) : Bool := (x.2.1.toList.isEmpty || eqB x.2.1 k) && (decide (x.2.2.1 ≤ day) && (decide (day < x.2.2.2.1) && decide (x.2.2.2.2.1 ≤ n)))
theorem cdWin {w : World} {g : Nat} {a z : Int} (h : Bk w g 29 #[.int .i64 a, .int .i64 z]) : w.cell? ⟨g, 0, none⟩ = some (.int .i64 a) ∧ w.cell? ⟨g, 1, none⟩ = some (.int .i64 z) := ⟨h.cell 0, h.cell 1⟩
set_option maxRecDepth 100000 in
set_option maxHeartbeats 4000000 in
theorem counts_c (x : Cd) (k : ByteArray) (a z : Int) (w : World) (ha : bnd a) (hz : bnd z) (h0 : tE a z = 0) :
    Calls Tryd.prog 108 #[.agg (cdC x), .string k, .agg #[.int .i64 a, .int .i64 z]] w fun e w' => e = .returned (.bool (cdCnt x k (a / 1440) (tN a z))) ∧ G w w' none := by
  obtain ⟨b0, b1, b2, b3⟩ := tE_zero h0
  have hBx := (Bk.new w 157 (cdC x)).alloc (.cells #[.int .i64 a, .int .i64 z] 29)
  have hBw := Bk.newAt (w := w.alloc (.cells (cdC x) 157)) (b := w.heap.size + 1) (by simp) 29 #[.int .i64 a, .int .i64 z]
  have hG := ((G.refl w none).alloc (.cells (cdC x) 157)).alloc (.cells #[.int .i64 a, .int .i64 z] 29)
  clear h0
  go_enter Tryd.func108, Tryd.ntmps108
  go_wp2_with (refine wpList_load_row rfl 29 _ rfl (w.heap.size + 1) rfl 29 #[.int .i64 a, .int .i64 z] (0, 0) _ hBw Tryd.underlying29 rfl (wi_info a z) ?_)
  refine (days_c a z _ ha hz).mono ?_; rintro e w1 ⟨rfl, hG1⟩
  have hB := hBx.quiet hG1
  have hG01 := hG.trans hG1
  clear hBx hBw hG hG1
  have c1 : w1.cell? ⟨w.heap.size, 1, none⟩ = some (.string x.2.1) := hB.cell 1
  have c2 : w1.cell? ⟨w.heap.size, 2, none⟩ = some (.int .i64 x.2.2.1) := hB.cell 2
  have c3 : w1.cell? ⟨w.heap.size, 3, none⟩ = some (.int .i64 x.2.2.2.1) := hB.cell 3
  have c4 : w1.cell? ⟨w.heap.size, 4, none⟩ = some (.int .i64 x.2.2.2.2.1) := hB.cell 4
  obtain ⟨D, hD⟩ : ∃ D, a / 1440 = D := ⟨_, rfl⟩
  obtain ⟨N, hN⟩ : ∃ N, tN a z = N := ⟨_, rfl⟩
  have FIN : Hid (∀ b : Bool, (x.2.1.toList.isEmpty || eqB x.2.1 k) = b → Hid (cdCnt x k (a / 1440) (tN a z) = (b && (decide (x.2.2.1 ≤ D) && (decide (D < x.2.2.2.1) && decide (x.2.2.2.2.1 ≤ N)))))) := Lib.hid fun b hb => Lib.hid (by rw [← hD, ← hN, ← hb]; rfl)
  rw [hD, hN]
  generalize tE a z = E
  clear hB b0 b1 b2 b3 ha hz hD hN
  cases hem : x.2.1.toList.isEmpty with
  | true =>
    have HC := FIN.out true (by rw [hem]; rfl)
    clear FIN
    rcases (show D < x.2.2.1 ∨ (x.2.2.1 ≤ D ∧ x.2.2.2.1 ≤ D) ∨ (x.2.2.1 ≤ D ∧ D < x.2.2.2.1) by omega) with t1 | ⟨t1, t2⟩ | ⟨t1, t2⟩
    · have HF : Hid (cdCnt x k (a / 1440) (tN a z) = false) := Lib.hid (by rw [HC.out, decide_eq_false (show ¬ x.2.2.1 ≤ D by omega)]; rfl)
      have t3 : ¬ x.2.2.1 ≤ D := by omega
      go_wp2_with fail
      go_ret
      exact ⟨ret_bool (by rw [HF.out]), hG01⟩
    · have HF : Hid (cdCnt x k (a / 1440) (tN a z) = false) := Lib.hid (by rw [HC.out, decide_eq_false (show ¬ D < x.2.2.2.1 by omega)]; simp)
      have t3 : ¬ D < x.2.2.2.1 := by omega
      go_wp2_with fail
      go_ret
      exact ⟨ret_bool (by rw [HF.out]), hG01⟩
    · have HF : Hid (cdCnt x k (a / 1440) (tN a z) = decide (x.2.2.2.2.1 ≤ N)) := Lib.hid (by rw [HC.out, decide_eq_true t1, decide_eq_true t2]; rfl)
      go_wp2_with fail
      go_ret
      exact ⟨ret_bool (by rw [HF.out]), hG01⟩
  | false =>
    have HEM := Lib.hid hem
    cases heq : eqB x.2.1 k with
    | true =>
      have HC := FIN.out true (by rw [HEM.out, heq]; rfl)
      unfold eqB at heq
      clear FIN
      rcases (show D < x.2.2.1 ∨ (x.2.2.1 ≤ D ∧ x.2.2.2.1 ≤ D) ∨ (x.2.2.1 ≤ D ∧ D < x.2.2.2.1) by omega) with t1 | ⟨t1, t2⟩ | ⟨t1, t2⟩
      · have HF : Hid (cdCnt x k (a / 1440) (tN a z) = false) := Lib.hid (by rw [HC.out, decide_eq_false (show ¬ x.2.2.1 ≤ D by omega)]; rfl)
        have t3 : ¬ x.2.2.1 ≤ D := by omega
        go_wp2_with fail
        go_ret
        exact ⟨ret_bool (by rw [HF.out]), hG01⟩
      · have HF : Hid (cdCnt x k (a / 1440) (tN a z) = false) := Lib.hid (by rw [HC.out, decide_eq_false (show ¬ D < x.2.2.2.1 by omega)]; simp)
        have t3 : ¬ D < x.2.2.2.1 := by omega
        go_wp2_with fail
        go_ret
        exact ⟨ret_bool (by rw [HF.out]), hG01⟩
      · have HF : Hid (cdCnt x k (a / 1440) (tN a z) = decide (x.2.2.2.2.1 ≤ N)) := Lib.hid (by rw [HC.out, decide_eq_true t1, decide_eq_true t2]; rfl)
        go_wp2_with fail
        go_ret
        exact ⟨ret_bool (by rw [HF.out]), hG01⟩
    | false =>
      have HC := FIN.out false (by rw [HEM.out, heq]; rfl)
      unfold eqB at heq
      clear FIN
      go_wp2_with fail
      go_ret
      exact ⟨ret_bool (by rw [HC.out]; rfl), hG01⟩
end Go.Proofs.YtndeidcddlmhbaaDoor

/- Codes: checkTime, checkBestCode. -/
namespace Go.Proofs.YtndeidcddlmhbaaDoor
open Go.RowKit

def cbE (l : List Cd) (ks : List ByteArray) (k : ByteArray) (a z c : Int) : Int := if cdE l = 0 then (if askE l ks = 0 then (if keyB k = false then 5 else if tE a z = 0 then (if inB c 0 1000000000 = false then 1 else 0) else tE a z) else askE l ks) else cdE l
set_option maxRecDepth 100000 in
theorem checkTime_c (a z : Int) (w : World) (ha : bnd a) (hz : bnd z) : Calls Tryd.prog 150 #[.agg #[.int .i64 a, .int .i64 z]] w fun e w' => e = .returned (.int .i64 (tE a z)) ∧ G w w' none := by
  have hB := Bk.new w 29 #[.int .i64 a, .int .i64 z]
  have hG := (G.refl w none).alloc (.cells #[.int .i64 a, .int .i64 z] 29)
  go_enter Tryd.func150, Tryd.ntmps150
  go_wp2_with (refine wpList_load_row rfl 29 _ rfl w.heap.size rfl 29 #[.int .i64 a, .int .i64 z] (0, 0) _ hB Tryd.underlying29 rfl (wi_info a z) ?_)
  refine (days_c a z _ ha hz).mono ?_; rintro e w1 ⟨rfl, hG1⟩
  obtain ⟨E, hE⟩ : ∃ E, tE a z = E := ⟨_, rfl⟩
  have HE := Lib.hid hE
  rw [hE]
  clear hE
  generalize tN a z = N
  go_wp2_with fail
  go_ret
  exact ⟨by rw [HE.out]; rfl, hG.trans hG1⟩
set_option maxRecDepth 100000 in
set_option maxHeartbeats 4000000 in
theorem checkBestCode_c (v u : Value) (l : List Cd) (ks : List ByteArray) (k : ByteArray) (a z c : Int) (w : World) (hr : RdR w 6 cdC v l) (hl : CdOk l) (hn : l.length ≤ 1000) (hs : RdS w u ks) (hk1 : ks.length ≤ 1000) (hk : Small k) (ha : bnd a) (hz : bnd z) :
    Calls Tryd.prog 106 #[v, u, .string k, .agg #[.int .i64 a, .int .i64 z], .int .i64 c] w fun e w' => e = .returned (.int .i64 (cbE l ks k a z c)) ∧ G w w' none := by
  have hmf : ∀ (fn : Go.Fn) (first cap : Array Value) (w : World), (Instr.makeFunc fn first cap).run Tryd.prog w = .ok (.func fn first cap) w := fun _ _ _ _ => rfl
  obtain ⟨ad, cap, rfl, hcap, hm⟩ := RdR.form hr
  have HC : Hid (cbE l ks k a z c = if cdE l = 0 then (if askE l ks = 0 then (if keyB k = false then 5 else if tE a z = 0 then (if inB c 0 1000000000 = false then 1 else 0) else tE a z) else askE l ks) else cdE l) := Lib.hid rfl
  have hG0 := ((G.refl w none).alloc (.cells #[.slice ad l.length cap] 86)).alloc (.cells #[.int .i64 a, .int .i64 z] 29)
  have HR := Lib.hid (hr.quiet hG0)
  have HS := Lib.hid (hs.quiet hG0)
  have hBv := (Bk.new w 86 #[.slice ad l.length cap]).alloc (.cells #[.int .i64 a, .int .i64 z] 29)
  have hBw := Bk.newAt (w := w.alloc (.cells #[.slice ad l.length cap] 86)) (b := w.heap.size + 1) (by simp) 29 #[.int .i64 a, .int .i64 z]
  have HH := Lib.hid (And.intro hl (And.intro ha hz))
  unfold Small at hk
  clear hr hs hl ha hz
  go_enter Tryd.func106, Tryd.ntmps106
  go_wp2_with fail
  refine (checkCodes_c _ l _ HR.out HH.out.1 hn).mono ?_; rintro e w1 ⟨rfl, hG1⟩
  have hBv1 := hBv.quiet hG1
  have hBw1 := hBw.quiet hG1
  have hG01 := hG0.trans hG1
  have HR1 := Lib.hid (HR.out.quiet hG1)
  have HS1 := Lib.hid (HS.out.quiet hG1)
  clear hBv hBw hG0 hG1 HR HS
  by_cases h0 : cdE l = 0
  · have HC1 : Hid (cbE l ks k a z c = if askE l ks = 0 then (if keyB k = false then 5 else if tE a z = 0 then (if inB c 0 1000000000 = false then 1 else 0) else tE a z) else askE l ks) := Lib.hid (by rw [HC.out, if_pos h0])
    rw [h0]
    clear h0 HC
    go_wp2_with fail
    refine (checkAsked_c _ u l ks w.heap.size _ HR1.out hn hBv1 HS1.out hk1).mono ?_; rintro e w2 ⟨rfl, hG2⟩
    have hBw2 := hBw1.quiet hG2
    have hG02 := hG01.trans hG2
    clear hBv1 hBw1 hG01 hG2 HR1 HS1
    by_cases h1 : askE l ks = 0
    · have HC2 : Hid (cbE l ks k a z c = if keyB k = false then 5 else if tE a z = 0 then (if inB c 0 1000000000 = false then 1 else 0) else tE a z) := Lib.hid (by rw [HC1.out, if_pos h1])
      rw [h1]
      clear h1 HC1
      go_wp2_with fail
      refine (isKey_c k _ hk).mono ?_; rintro e w' ⟨rfl, rfl⟩
      cases hkb : keyB k with
      | false =>
        have HF : Hid (cbE l ks k a z c = 5) := Lib.hid (by rw [HC2.out, if_pos hkb])
        clear hkb
        go_wp2_with fail
        go_ret
        exact ⟨by rw [HF.out]; rfl, hG02⟩
      | true =>
        have HC3 : Hid (cbE l ks k a z c = if tE a z = 0 then (if inB c 0 1000000000 = false then 1 else 0) else tE a z) := Lib.hid (by rw [HC2.out, if_neg (by simp [hkb])])
        clear hkb HC2
        go_wp2_with (refine wpList_load_row rfl 29 _ rfl (w.heap.size + 1) rfl 29 #[.int .i64 a, .int .i64 z] (0, 0) _ hBw2 Tryd.underlying29 rfl (wi_info a z) ?_)
        refine (checkTime_c a z _ HH.out.2.1 HH.out.2.2).mono ?_; rintro e w3 ⟨rfl, hG3⟩
        have hG03 := hG02.trans hG3
        clear hG02 hG3 hBw2
        by_cases h2 : tE a z = 0
        · have HC4 : Hid (cbE l ks k a z c = if inB c 0 1000000000 = false then 1 else 0) := Lib.hid (by rw [HC3.out, if_pos h2])
          rw [h2]
          clear h2 HC3
          go_wp2_with fail
          refine (within_c _ _ _ _).mono ?_; rintro e w' ⟨rfl, rfl⟩
          cases hc : inB c 0 1000000000 with
          | false =>
            have HF : Hid (cbE l ks k a z c = 1) := Lib.hid (by rw [HC4.out, if_pos hc])
            go_wp2_with fail
            go_ret
            exact ⟨by rw [HF.out]; rfl, hG03⟩
          | true =>
            have HF : Hid (cbE l ks k a z c = 0) := Lib.hid (by rw [HC4.out, if_neg (by simp [hc])])
            go_wp2_with fail
            go_ret
            exact ⟨by rw [HF.out]; rfl, hG03⟩
        · have HF : Hid (cbE l ks k a z c = tE a z) := Lib.hid (by rw [HC3.out, if_neg h2])
          have h2' : (tE a z != 0) = true := by rw [bne_iff_ne]; exact h2
          clear h2 HC3
          generalize tE a z = E at h2' HF ⊢
          go_wp2_with fail
          go_ret
          exact ⟨by rw [HF.out]; rfl, hG03⟩
    · have HF : Hid (cbE l ks k a z c = askE l ks) := Lib.hid (by rw [HC1.out, if_neg h1])
      have h1' : (askE l ks != 0) = true := by rw [bne_iff_ne]; exact h1
      clear h1 HC1
      generalize askE l ks = E at h1' HF ⊢
      go_wp2_with fail
      go_ret
      exact ⟨by rw [HF.out]; rfl, hG02⟩
  · have HF : Hid (cbE l ks k a z c = cdE l) := Lib.hid (by rw [HC.out, if_neg h0])
    have h0' : (cdE l != 0) = true := by rw [bne_iff_ne]; exact h0
    clear h0 HC
    generalize cdE l = E at h0' HF ⊢
    go_wp2_with fail
    go_ret
    exact ⟨by rw [HF.out]; rfl, hG01⟩
end Go.Proofs.YtndeidcddlmhbaaDoor

/- Codes: BestCode; the reference's CodeOf. -/
namespace Go.Proofs.YtndeidcddlmhbaaDoor
open Go.RowKit

theorem cdErr_ok {l : List Cd} : ∀ {b : ByteArray}, cdErr b l = 0 → ∀ x ∈ l, keyB x.1 = true ∧ cdBadN x = false := by
  induction l with
  | nil => intro b _ x hx; cases hx
  | cons y r ih =>
    intro b h
    unfold cdErr at h
    split at h
    · exact absurd h (by decide)
    · rename_i h1
      split at h
      · exact absurd h (by decide)
      · split at h
        · exact absurd h (by decide)
        · split at h
          · exact absurd h (by decide)
          · rename_i h4
            intro x hx
            rcases List.mem_cons.1 hx with rfl | hx
            · exact ⟨by simpa using h1, by simpa using h4⟩
            · exact ih h x hx
theorem cdE_ok {l : List Cd} (h : cdE l = 0) : ∀ x ∈ l, (0 < x.1.size) ∧ (1 ≤ x.2.2.2.2.2 ∧ x.2.2.2.2.2 ≤ 1000) ∧ (0 ≤ x.2.2.1 ∧ x.2.2.1 ≤ x.2.2.2.1 ∧ x.2.2.2.1 ≤ 4001) := by
  unfold cdE at h
  split at h
  · exact absurd h (by decide)
  · intro x hx
    obtain ⟨h1, h2⟩ := cdErr_ok h x hx
    refine ⟨?_, ?_⟩
    · rcases Nat.eq_zero_or_pos x.1.size with hz | hz
      · rw [keyB_no _ (.inl hz)] at h1; cases h1
      · exact hz
    · simp only [cdBadN, inB, Bool.not_eq_false', Bool.and_eq_true, decide_eq_true_eq] at h2
      omega
/-- One code more. -/
def bcS (ks : List ByteArray) (k : ByteArray) (day n c : Int) (s : ByteArray × Int) (x : Cd) : ByteArray × Int :=
  if (hasK ks x.1 && cdCnt x k day n) = true then (if (s.1.toList.isEmpty || decide (s.2 < c * x.2.2.2.2.2 / 1000)) = true then (x.1, c * x.2.2.2.2.2 / 1000) else s) else s
def bcF (ks : List ByteArray) (k : ByteArray) (day n c : Int) (l : List Cd) : ByteArray × Int := l.foldl (bcS ks k day n c) (⟨#[]⟩, 0)
def coS (ks : List ByteArray) (k : ByteArray) (day n c : Int) (s : ByteArray × Int) (x : Cd) : ByteArray × Int :=
  if (hasK ks x.1 && cdCnt x k day n) = true then (if s.2 < c * x.2.2.2.2.2 / 1000 then (x.1, c * x.2.2.2.2.2 / 1000) else s) else s
def coF (ks : List ByteArray) (k : ByteArray) (day n c : Int) (l : List Cd) : ByteArray × Int := l.foldl (coS ks k day n c) (⟨#[]⟩, -1)
theorem fold_succ {α β : Type} (f : β → α → β) (b : β) {l : List α} {k : Nat} {p : α} (hp : l[k]? = some p) : (l.take (k + 1)).foldl f b = f ((l.take k).foldl f b) p := by
  have hk : k < l.length := (List.getElem?_eq_some_iff.1 hp).1
  rw [List.take_succ_eq_append_getElem hk, (List.getElem?_eq_some_iff.1 hp).2, List.foldl_append]
  rfl
theorem bc_co (ks : List ByteArray) (k : ByteArray) (day n c : Int) (hc : 0 ≤ c) (l : List Cd) (h : ∀ x ∈ l, 0 < x.1.size ∧ 0 ≤ x.2.2.2.2.2) : bcF ks k day n c l = ((coF ks k day n c l).1, max 0 (coF ks k day n c l).2) := by
  have key : ∀ (r : List Cd) (s t : ByteArray × Int), (∀ x ∈ r, 0 < x.1.size ∧ 0 ≤ x.2.2.2.2.2) → ((s = (⟨#[]⟩, 0) ∧ t = (⟨#[]⟩, -1)) ∨ (s = t ∧ s.1.toList.isEmpty = false ∧ 0 ≤ s.2)) →
      r.foldl (bcS ks k day n c) s = ((r.foldl (coS ks k day n c) t).1, max 0 (r.foldl (coS ks k day n c) t).2) := by
    intro r
    induction r with
    | nil =>
      intro s t _ h
      rcases h with ⟨rfl, rfl⟩ | ⟨rfl, _, h0⟩
      · rfl
      · show s = (s.1, max 0 s.2)
        rw [show max 0 s.2 = s.2 by omega]
    | cons x r ih =>
      intro s t hx h
      obtain ⟨hx1, hx2⟩ := hx x (List.mem_cons_self ..)
      have hm : 0 ≤ c * x.2.2.2.2.2 / 1000 := Int.ediv_nonneg (Int.mul_nonneg hc hx2) (by omega)
      refine ih _ _ (fun y hy => hx y (List.mem_cons_of_mem _ hy)) ?_
      unfold bcS coS
      rcases h with ⟨rfl, rfl⟩ | ⟨rfl, hne, h0⟩
      · split
        · right
          have he : (ByteArray.mk #[]).toList.isEmpty = true := by rw [ByteArray.toList_eq]; rfl
          rw [if_pos (by rw [he]; rfl), if_pos (show (-1 : Int) < c * x.2.2.2.2.2 / 1000 by omega)]
          exact ⟨rfl, isE_of hx1, hm⟩
        · exact .inl ⟨rfl, rfl⟩
      · right
        rw [hne, Bool.false_or]
        split
        · by_cases hlt : s.2 < c * x.2.2.2.2.2 / 1000
          · rw [if_pos (decide_eq_true hlt), if_pos hlt]
            exact ⟨rfl, isE_of hx1, hm⟩
          · rw [if_neg (by simpa using hlt), if_neg hlt]
            exact ⟨rfl, hne, h0⟩
        · exact ⟨rfl, hne, h0⟩
  exact key l _ _ h (.inl ⟨rfl, rfl⟩)
def cbN (l : List Cd) (ks : List ByteArray) (k : ByteArray) (a z c : Int) : ByteArray × Int := if cbE l ks k a z c = 0 then bcF ks k (a / 1440) (tN a z) c l else (⟨#[]⟩, 0)
theorem cbE_zero {l : List Cd} {ks : List ByteArray} {k : ByteArray} {a z c : Int} (h : cbE l ks k a z c = 0) : cdE l = 0 ∧ tE a z = 0 ∧ 0 ≤ c ∧ c ≤ 1000000000 := by
  unfold cbE at h
  split at h
  · rename_i h1
    split at h
    · split at h
      · exact absurd h (by decide)
      · split at h
        · rename_i h4
          split at h
          · exact absurd h (by decide)
          · rename_i h5
            simp only [inB, Bool.not_eq_false, Bool.and_eq_true, decide_eq_true_eq] at h5
            exact ⟨h1, h4, h5⟩
        · rename_i h4; exact absurd h h4
    · rename_i h2; exact absurd h h2
  · rename_i h1; exact absurd h h1
def BcRel (w : World) (l : List Cd) (ks : List ByteArray) (key : ByteArray) (day n c : Int) (g : Nat) (a z : Int) (s14 s15 i : Value) (wr : World) : Prop :=
  ∃ k : Nat, k ≤ l.length ∧ i = .int .i64 k ∧ s14 = .string (bcF ks key day n c (l.take k)).1 ∧ s15 = .int .i64 (bcF ks key day n c (l.take k)).2 ∧ Bk wr g 29 #[.int .i64 a, .int .i64 z] ∧ G w wr none
set_option maxRecDepth 100000 in
set_option maxHeartbeats 8000000 in
theorem bestCode_c (v u : Value) (l : List Cd) (ks : List ByteArray) (key : ByteArray) (a z c : Int) (w : World) (hr : RdR w 6 cdC v l) (hl : CdOk l) (hn : l.length ≤ 1000) (hs : RdS w u ks) (hk1 : ks.length ≤ 1000) (hk : Small key) (ha : bnd a) (hz : bnd z) :
    Calls Tryd.prog 53 #[v, u, .string key, .agg #[.int .i64 a, .int .i64 z], .int .i64 c] w fun e w' => e = .returned (.tuple #[.string (cbN l ks key a z c).1, .int .i64 (cbN l ks key a z c).2, .int .i64 (cbE l ks key a z c)]) ∧ G w w' none := by
  have hG0 := (G.refl w none).alloc (.cells #[.int .i64 a, .int .i64 z] 29)
  have hB0 := Bk.new w 29 #[.int .i64 a, .int .i64 z]
  have HR := Lib.hid hr
  have HS := Lib.hid hs
  have HH := Lib.hid (And.intro hl (And.intro ha hz))
  have HN1 : Hid (cbE l ks key a z c = 0 → cbN l ks key a z c = bcF ks key (a / 1440) (tN a z) c l) := Lib.hid fun h => by rw [cbN, if_pos h]
  have HN2 : Hid (cbE l ks key a z c ≠ 0 → cbN l ks key a z c = (⟨#[]⟩, 0)) := Lib.hid fun h => by rw [cbN, if_neg h]
  obtain ⟨ad, cap, rfl, hcap, hm⟩ := RdR.form hr
  clear hr hs hl ha hz
  go_enter Tryd.func53, Tryd.ntmps53
  go_wp2_with (refine wpList_load_row rfl 29 _ rfl w.heap.size rfl 29 #[.int .i64 a, .int .i64 z] (0, 0) _ hB0 Tryd.underlying29 rfl (wi_info a z) ?_)
  refine (checkBestCode_c _ u l ks key a z c _ (HR.out.quiet hG0) HH.out.1 hn (HS.out.quiet hG0) hk1 hk HH.out.2.1 HH.out.2.2).mono ?_; rintro e w1 ⟨rfl, hG1⟩
  have hB := hB0.quiet hG1
  have hG := hG0.trans hG1
  clear hB0 hG0 hG1
  by_cases h0 : cbE l ks key a z c = 0
  · obtain ⟨h1, h2, c0, c1⟩ := cbE_zero h0
    have HT := Lib.hid h2
    have HOK := Lib.hid (cdE_ok h1)
    have HN := Lib.hid (HN1.out h0)
    have HE0 := Lib.hid h0
    rw [h0]
    clear h0 h1 h2 HN1 HN2
    obtain ⟨D, hD⟩ : ∃ D, a / 1440 = D := ⟨_, rfl⟩
    obtain ⟨N, hN⟩ : ∃ N, tN a z = N := ⟨_, rfl⟩
    rw [hD, hN] at HN
    have HD := Lib.hid hD
    have HNN := Lib.hid hN
    clear hD hN
    go_wp2_with fail
    go_loopw [14, 15, 30] (BcRel w l ks key D N c w.heap.size a z) (fun _ _ i _ => l.length - (intOf i).toNat)
    case atStart => exact ⟨0, by omega, rfl, rfl, rfl, hB, hG⟩
    case round =>
      clear hB hG
      obtain ⟨k, hkl, rfl, rfl, rfl, hB, hG⟩ := hrel
      by_cases hlt : k < l.length
      · obtain ⟨p, hp⟩ : ∃ p, l[k]? = some p := ⟨_, List.getElem?_eq_getElem hlt⟩
        have HF0 : Hid (bcF ks key D N c (l.take (k + 1)) = bcS ks key D N c (bcF ks key D N c (l.take k)) p) := Lib.hid (fold_succ _ _ hp)
        obtain ⟨_, ⟨n0, n1⟩, _⟩ := HOK.out p (List.mem_of_getElem? hp)
        have m0 : 0 ≤ c * p.2.2.2.2.2 := Int.mul_nonneg c0 (by omega)
        have m1 : c * p.2.2.2.2.2 ≤ 1000000000000 := by
          have := Int.mul_le_mul c1 n1 (by omega) (by omega)
          omega
        obtain ⟨bb, bo, rfl, hbb, _⟩ := RdR.elem cdC_sz HR.out hG hp
        have HW := Lib.hid (cdRow HR.out hG hp)
        have hB5 := Bk.new wr 157 (cdC p)
        have hG5 := hG.alloc (.cells (cdC p) 157)
        have hW5 := hB.alloc (.cells (cdC p) 157)
        clear hp hG hB
        go_wp2_with (refine wpList_load_at rfl 157 _ rfl ⟨bb, bo + k * 6, none⟩ rfl #[.string p.1, .string p.2.1, .int .i64 p.2.2.1, .int .i64 p.2.2.2.1, .int .i64 p.2.2.2.2.1, .int .i64 p.2.2.2.2.2] _ HW.out Tryd.underlying157 rfl (cd_info p) ?_)
        have hB5 : Bk (wr.alloc (.cells #[.string p.1, .string p.2.1, .int .i64 p.2.2.1, .int .i64 p.2.2.2.1, .int .i64 p.2.2.2.2.1, .int .i64 p.2.2.2.2.2] 157)) wr.heap.size 157 (cdC p) := hB5
        have hG5 : G w (wr.alloc (.cells #[.string p.1, .string p.2.1, .int .i64 p.2.2.1, .int .i64 p.2.2.2.1, .int .i64 p.2.2.2.2.1, .int .i64 p.2.2.2.2.2] 157)) none := hG5
        have hW5 : Bk (wr.alloc (.cells #[.string p.1, .string p.2.1, .int .i64 p.2.2.1, .int .i64 p.2.2.2.1, .int .i64 p.2.2.2.2.1, .int .i64 p.2.2.2.2.2] 157)) w.heap.size 29 #[.int .i64 a, .int .i64 z] := hW5
        clear HW
        generalize wr.alloc (.cells #[.string p.1, .string p.2.1, .int .i64 p.2.2.1, .int .i64 p.2.2.2.1, .int .i64 p.2.2.2.2.1, .int .i64 p.2.2.2.2.2] 157) = w5 at hB5 hG5 hW5 ⊢
        generalize wr.heap.size = g at hB5 ⊢
        refine (sContains_c u ks p.1 _ (HS.out.quiet hG5) (by omega)).mono ?_; rintro e w' ⟨rfl, rfl⟩
        obtain ⟨S, M, hSM⟩ : ∃ S M, bcF ks key D N c (l.take k) = (S, M) := ⟨_, _, rfl⟩
        rw [hSM] at HF0
        rw [hSM]
        have HF : Hid (bcF ks key D N c (l.take (k + 1)) = if (hasK ks p.1 && cdCnt p key D N) = true then (if (S.toList.isEmpty || decide (M < c * p.2.2.2.2.2 / 1000)) = true then (p.1, c * p.2.2.2.2.2 / 1000) else (S, M)) else (S, M)) := Lib.hid HF0.out
        clear HF0 hSM
        cases hk2 : hasK ks p.1 with
        | false =>
          have HQ : Hid (bcF ks key D N c (l.take (k + 1)) = (S, M)) := Lib.hid (by rw [HF.out, hk2]; rfl)
          clear HF hk2
          go_wp2_with fail
          go_roundw
          case rel => exact ⟨k + 1, by omega, by go_num, by rw [HQ.out], by rw [HQ.out], hW5, hG5⟩
          case measure => simp [intOf]; omega
        | true =>
          have HF2 : Hid (bcF ks key D N c (l.take (k + 1)) = if cdCnt p key D N = true then (if (S.toList.isEmpty || decide (M < c * p.2.2.2.2.2 / 1000)) = true then (p.1, c * p.2.2.2.2.2 / 1000) else (S, M)) else (S, M)) := Lib.hid (by rw [HF.out, hk2]; rfl)
          clear HF hk2
          have e0 : w5.cell? ⟨g, 0, none⟩ = some (.string p.1) := hB5.cell 0
          have e1 : w5.cell? ⟨g, 1, none⟩ = some (.string p.2.1) := hB5.cell 1
          have e2 : w5.cell? ⟨g, 2, none⟩ = some (.int .i64 p.2.2.1) := hB5.cell 2
          have e3 : w5.cell? ⟨g, 3, none⟩ = some (.int .i64 p.2.2.2.1) := hB5.cell 3
          have e4 : w5.cell? ⟨g, 4, none⟩ = some (.int .i64 p.2.2.2.2.1) := hB5.cell 4
          have e5 : w5.cell? ⟨g, 5, none⟩ = some (.int .i64 p.2.2.2.2.2) := hB5.cell 5
          have t0 : w5.cell? ⟨w.heap.size, 0, none⟩ = some (.int .i64 a) := hW5.cell 0
          have t1 : w5.cell? ⟨w.heap.size, 1, none⟩ = some (.int .i64 z) := hW5.cell 1
          go_wp2_with fail
          refine (counts_c p key a z _ HH.out.2.1 HH.out.2.2 HT.out).mono ?_; rintro e w6 ⟨rfl, hG6⟩
          rw [HD.out, HNN.out]
          have hB6 := hB5.quiet hG6
          have hW6 := hW5.quiet hG6
          have hG06 := hG5.trans hG6
          clear e0 e1 e2 e3 e4 e5 t0 t1 hB5 hW5 hG5 hG6
          cases hq : cdCnt p key D N with
          | false =>
            have HQ : Hid (bcF ks key D N c (l.take (k + 1)) = (S, M)) := Lib.hid (by rw [HF2.out, hq]; rfl)
            clear HF2 hq
            go_wp2_with fail
            go_roundw
            case rel => exact ⟨k + 1, by omega, by go_num, by rw [HQ.out], by rw [HQ.out], hW6, hG06⟩
            case measure => simp [intOf]; omega
          | true =>
            have HF3 : Hid (bcF ks key D N c (l.take (k + 1)) = if (S.toList.isEmpty || decide (M < c * p.2.2.2.2.2 / 1000)) = true then (p.1, c * p.2.2.2.2.2 / 1000) else (S, M)) := Lib.hid (by rw [HF2.out, hq]; rfl)
            clear HF2 hq
            have e0 : w6.cell? ⟨g, 0, none⟩ = some (.string p.1) := hB6.cell 0
            have e5 : w6.cell? ⟨g, 5, none⟩ = some (.int .i64 p.2.2.2.2.2) := hB6.cell 5
            cases hem : S.toList.isEmpty with
            | true =>
              have HQ : Hid (bcF ks key D N c (l.take (k + 1)) = (p.1, c * p.2.2.2.2.2 / 1000)) := Lib.hid (by rw [HF3.out, hem]; rfl)
              clear HF3
              go_wp2_with fail
              go_roundw
              case rel => exact ⟨k + 1, by omega, by go_num, by rw [HQ.out], by rw [HQ.out], hW6, hG06⟩
              case measure => simp [intOf]; omega
            | false =>
              rcases (show M < c * p.2.2.2.2.2 / 1000 ∨ c * p.2.2.2.2.2 / 1000 ≤ M by omega) with hc | hc
              · have HQ : Hid (bcF ks key D N c (l.take (k + 1)) = (p.1, c * p.2.2.2.2.2 / 1000)) := Lib.hid (by rw [HF3.out, hem, decide_eq_true hc]; rfl)
                clear HF3
                go_wp2_with fail
                go_roundw
                case rel => exact ⟨k + 1, by omega, by go_num, by rw [HQ.out], by rw [HQ.out], hW6, hG06⟩
                case measure => simp [intOf]; omega
              · have HQ : Hid (bcF ks key D N c (l.take (k + 1)) = (S, M)) := Lib.hid (by rw [HF3.out, hem, decide_eq_false (by omega)]; rfl)
                have hc2 : ¬ M < c * p.2.2.2.2.2 / 1000 := by omega
                clear HF3
                go_wp2_with fail
                go_roundw
                case rel => exact ⟨k + 1, by omega, by go_num, by rw [HQ.out], by rw [HQ.out], hW6, hG06⟩
                case measure => simp [intOf]; omega
      · obtain rfl : k = l.length := by omega
        rw [List.take_length] at *
        have HF : Hid (cbN l ks key a z c = bcF ks key D N c l) := HN
        generalize bcF ks key D N c l = X at HF ⊢
        go_wp2_with fail
        go_ret3
        exact ⟨by rw [HF.out, HE0.out]; rfl, hG⟩
  · have HF := Lib.hid (HN2.out h0)
    have h0' : (cbE l ks key a z c != 0) = true := by rw [bne_iff_ne]; exact h0
    clear h0 HN1 HN2
    obtain ⟨E, hE⟩ : ∃ E, cbE l ks key a z c = E := ⟨_, rfl⟩
    have HE0 := Lib.hid hE
    rw [hE] at h0' ⊢
    clear hE
    go_wp2_with fail
    go_ret3
    exact ⟨by rw [HF.out, HE0.out]; rfl, hG⟩
end Go.Proofs.YtndeidcddlmhbaaDoor
