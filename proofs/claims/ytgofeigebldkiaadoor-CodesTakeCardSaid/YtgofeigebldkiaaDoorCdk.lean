/- Codes: closures, ContainsFunc, checkAsked, the reference's CodeKeysFault. -/
import Derived.Test.YtgofeigebldkiaaDoorCod
import Derived.Test.YtgofeigebldkiaaDoorOws
import Derived.Test.YtgofeigebldkiaaDoorStr
namespace Go.Proofs.YtgofeigebldkiaaDoor
open Go.RowKit

def cdHas (l : List Cd) (t : ByteArray) : Bool := l.any fun x => eqB x.1 t
/-- What a closure of codes must say: that the key is that of its cell. -/
def ClosOk (F : FuncId) (t : ByteArray) (g : Nat) : Prop := ∀ (p : Cd) (w : World), Bk w g 9 #[.string t] → Calls Tryd.prog F #[.agg (cdC p), .pointer (some ⟨g, 0, none⟩)] w fun e w' => e = .returned (.bool (eqB p.1 t)) ∧ G w w' none
theorem clos1_c (t : ByteArray) (g : Nat) : ClosOk 103 t g := by
  intro p w hB
  have hc : (w.alloc (.cells (cdC p) 116)).cell? ⟨w.heap.size, 0, none⟩ = some (.string p.1) := (Bk.new w 116 (cdC p)).cell 0
  have hc2 : (w.alloc (.cells (cdC p) 116)).cell? ⟨g, 0, none⟩ = some (.string t) := (hB.alloc (.cells (cdC p) 116)).cell 0
  cases he : eqB p.1 t with
  | true =>
    unfold eqB at he
    go_enter Tryd.func103, Tryd.ntmps103
    go_wp2_with fail
    go_ret
    exact ⟨rfl, (G.refl _ _).alloc _⟩
  | false =>
    unfold eqB at he
    go_enter Tryd.func103, Tryd.ntmps103
    go_wp2_with fail
    go_ret
    exact ⟨rfl, (G.refl _ _).alloc _⟩
theorem clos2_c (t : ByteArray) (g : Nat) : ClosOk 76 t g := by
  intro p w hB
  have hc : (w.alloc (.cells (cdC p) 116)).cell? ⟨w.heap.size, 0, none⟩ = some (.string p.1) := (Bk.new w 116 (cdC p)).cell 0
  have hc2 : (w.alloc (.cells (cdC p) 116)).cell? ⟨g, 0, none⟩ = some (.string t) := (hB.alloc (.cells (cdC p) 116)).cell 0
  cases he : eqB p.1 t with
  | true =>
    unfold eqB at he
    go_enter Tryd.func76, Tryd.ntmps76
    go_wp2_with fail
    go_ret
    exact ⟨rfl, (G.refl _ _).alloc _⟩
  | false =>
    unfold eqB at he
    go_enter Tryd.func76, Tryd.ntmps76
    go_wp2_with fail
    go_ret
    exact ⟨rfl, (G.refl _ _).alloc _⟩
def cdAt (l : List Cd) (t : ByteArray) : Int := ixP (fun p : Cd => eqB p.1 t) l 0
def CdaRel (w : World) (l : List Cd) (t : ByteArray) (i : Value) (wr : World) : Prop :=
  ∃ k : Nat, k ≤ l.length ∧ i = .int .i64 k ∧ cdAt l t = ixP (fun p : Cd => eqB p.1 t) (l.drop k) k ∧ G w wr none
set_option maxRecDepth 100000 in
set_option maxHeartbeats 2000000 in
theorem cdIndex1_c (v : Value) (l : List Cd) (t : ByteArray) (g : Nat) (w : World) (hF : ClosOk 103 t g) (hr : RdR w 6 cdC v l) (hn : l.length ≤ 1000) (hB : Bk w g 9 #[.string t]) :
    Calls Tryd.prog 107 #[v, .func (.func 103) #[] #[.pointer (some ⟨g, 0, none⟩)]] w fun e w' => e = .returned (.int .i64 (cdAt l t)) ∧ G w w' none := by
  have HR := Lib.hid hr
  have HFF := Lib.hid hF
  obtain ⟨a, cap, rfl, hcap, hm⟩ := RdR.form hr
  clear hr hF
  go_enter Tryd.func107, Tryd.ntmps107
  go_wp2_with fail
  go_loopw [8] (CdaRel w l t) (fun i _ => l.length - (intOf i).toNat)
  case atStart => exact ⟨0, by omega, rfl, rfl, G.refl _ _⟩
  case round =>
    obtain ⟨k, hk, rfl, heq, hG⟩ := hrel
    have HE := Lib.hid heq
    clear heq
    by_cases hlt : k < l.length
    · obtain ⟨p, hp⟩ : ∃ p, l[k]? = some p := ⟨_, List.getElem?_eq_getElem hlt⟩
      have HD : Hid (cdAt l t = if eqB p.1 t = true then (k : Int) else ixP (fun p : Cd => eqB p.1 t) (l.drop (k + 1)) ((k : Int) + 1)) := Lib.hid (by
        rw [HE.out, List.drop_eq_getElem_cons hlt, (List.getElem?_eq_some_iff.1 hp).2]; rfl)
      obtain ⟨bb, bo, rfl, hbb, _⟩ := RdR.elem cdC_sz HR.out hG hp
      have HW := Lib.hid (cdRow HR.out hG hp)
      clear hp
      go_wp2_with (refine wpList_load_at rfl 116 _ rfl ⟨bb, bo + k * 6, none⟩ rfl (cdC p) _ HW.out Tryd.underlying116 rfl (cd_info p) ?_)
      refine (HFF.out p _ (hB.quiet hG)).mono ?_; rintro e w1 ⟨rfl, hG1⟩
      cases he : eqB p.1 t with
      | true =>
        have HF : Hid (cdAt l t = k) := Lib.hid (by rw [HD.out, if_pos he])
        clear he
        go_wp2_with fail
        go_ret
        exact ⟨ret_int HF.out.symm, hG.trans hG1⟩
      | false =>
        have HF : Hid (cdAt l t = ixP (fun p : Cd => eqB p.1 t) (l.drop (k + 1)) ((k + 1 : Nat) : Int)) := Lib.hid (by rw [HD.out, if_neg (by simp [he])]; rfl)
        clear he
        go_wp2_with fail
        go_roundw
        case rel => exact ⟨k + 1, by omega, by go_num, HF.out, hG.trans hG1⟩
        case measure => simp [intOf]; omega
    · obtain rfl : k = l.length := by omega
      have HF : Hid (cdAt l t = -1) := Lib.hid (by rw [HE.out, List.drop_length]; rfl)
      go_wp2_with fail
      go_ret
      exact ⟨ret_int HF.out.symm, hG⟩
set_option maxRecDepth 100000 in
set_option maxHeartbeats 2000000 in
theorem cdIndex2_c (v : Value) (l : List Cd) (t : ByteArray) (g : Nat) (w : World) (hF : ClosOk 76 t g) (hr : RdR w 6 cdC v l) (hn : l.length ≤ 1000) (hB : Bk w g 9 #[.string t]) :
    Calls Tryd.prog 107 #[v, .func (.func 76) #[] #[.pointer (some ⟨g, 0, none⟩)]] w fun e w' => e = .returned (.int .i64 (cdAt l t)) ∧ G w w' none := by
  have HR := Lib.hid hr
  have HFF := Lib.hid hF
  obtain ⟨a, cap, rfl, hcap, hm⟩ := RdR.form hr
  clear hr hF
  go_enter Tryd.func107, Tryd.ntmps107
  go_wp2_with fail
  go_loopw [8] (CdaRel w l t) (fun i _ => l.length - (intOf i).toNat)
  case atStart => exact ⟨0, by omega, rfl, rfl, G.refl _ _⟩
  case round =>
    obtain ⟨k, hk, rfl, heq, hG⟩ := hrel
    have HE := Lib.hid heq
    clear heq
    by_cases hlt : k < l.length
    · obtain ⟨p, hp⟩ : ∃ p, l[k]? = some p := ⟨_, List.getElem?_eq_getElem hlt⟩
      have HD : Hid (cdAt l t = if eqB p.1 t = true then (k : Int) else ixP (fun p : Cd => eqB p.1 t) (l.drop (k + 1)) ((k : Int) + 1)) := Lib.hid (by
        rw [HE.out, List.drop_eq_getElem_cons hlt, (List.getElem?_eq_some_iff.1 hp).2]; rfl)
      obtain ⟨bb, bo, rfl, hbb, _⟩ := RdR.elem cdC_sz HR.out hG hp
      have HW := Lib.hid (cdRow HR.out hG hp)
      clear hp
      go_wp2_with (refine wpList_load_at rfl 116 _ rfl ⟨bb, bo + k * 6, none⟩ rfl (cdC p) _ HW.out Tryd.underlying116 rfl (cd_info p) ?_)
      refine (HFF.out p _ (hB.quiet hG)).mono ?_; rintro e w1 ⟨rfl, hG1⟩
      cases he : eqB p.1 t with
      | true =>
        have HF : Hid (cdAt l t = k) := Lib.hid (by rw [HD.out, if_pos he])
        clear he
        go_wp2_with fail
        go_ret
        exact ⟨ret_int HF.out.symm, hG.trans hG1⟩
      | false =>
        have HF : Hid (cdAt l t = ixP (fun p : Cd => eqB p.1 t) (l.drop (k + 1)) ((k + 1 : Nat) : Int)) := Lib.hid (by rw [HD.out, if_neg (by simp [he])]; rfl)
        clear he
        go_wp2_with fail
        go_roundw
        case rel => exact ⟨k + 1, by omega, by go_num, HF.out, hG.trans hG1⟩
        case measure => simp [intOf]; omega
    · obtain rfl : k = l.length := by omega
      have HF : Hid (cdAt l t = -1) := Lib.hid (by rw [HE.out, List.drop_length]; rfl)
      go_wp2_with fail
      go_ret
      exact ⟨ret_int HF.out.symm, hG⟩
theorem cdAt_has (l : List Cd) (t : ByteArray) : (cdAt l t = -1 ∧ cdHas l t = false) ∨ (0 ≤ cdAt l t ∧ cdHas l t = true) := by
  rcases ixP_spec (fun p : Cd => eqB p.1 t) l 0 with ⟨h1, h2⟩ | ⟨i, p, h1, h2, h3⟩
  · exact .inl ⟨h1, h2⟩
  · refine .inr ⟨?_, List.any_eq_true.2 ⟨p, List.mem_of_getElem? h2, h3⟩⟩
    have e : cdAt l t = ((0 + i : Nat) : Int) := h1
    omega
set_option maxRecDepth 100000 in
theorem cdContains1_c (v : Value) (l : List Cd) (t : ByteArray) (g : Nat) (w : World) (hF : ClosOk 103 t g) (hr : RdR w 6 cdC v l) (hn : l.length ≤ 1000) (hB : Bk w g 9 #[.string t]) :
    Calls Tryd.prog 75 #[v, .func (.func 103) #[] #[.pointer (some ⟨g, 0, none⟩)]] w fun e w' => e = .returned (.bool (cdHas l t)) ∧ G w w' none := by
  have HX := Lib.hid (cdIndex1_c v l t g w hF hr hn hB)
  have hh := cdAt_has l t
  clear hF hr hB
  generalize cdAt l t = x at hh HX
  rcases hh with ⟨hx, hb⟩ | ⟨hx, hb⟩
  · rw [hb]
    clear hb
    go_enter Tryd.func75, Tryd.ntmps75
    go_wp2_with fail
    refine HX.out.mono ?_; rintro e w1 ⟨rfl, hG1⟩
    subst hx
    go_wp2_with fail
    go_ret
    exact ⟨rfl, hG1⟩
  · rw [hb]
    clear hb
    go_enter Tryd.func75, Tryd.ntmps75
    go_wp2_with fail
    refine HX.out.mono ?_; rintro e w1 ⟨rfl, hG1⟩
    go_wp2_with fail
    go_ret
    exact ⟨rfl, hG1⟩
set_option maxRecDepth 100000 in
theorem cdContains2_c (v : Value) (l : List Cd) (t : ByteArray) (g : Nat) (w : World) (hF : ClosOk 76 t g) (hr : RdR w 6 cdC v l) (hn : l.length ≤ 1000) (hB : Bk w g 9 #[.string t]) :
    Calls Tryd.prog 75 #[v, .func (.func 76) #[] #[.pointer (some ⟨g, 0, none⟩)]] w fun e w' => e = .returned (.bool (cdHas l t)) ∧ G w w' none := by
  have HX := Lib.hid (cdIndex2_c v l t g w hF hr hn hB)
  have hh := cdAt_has l t
  clear hF hr hB
  generalize cdAt l t = x at hh HX
  rcases hh with ⟨hx, hb⟩ | ⟨hx, hb⟩
  · rw [hb]
    clear hb
    go_enter Tryd.func75, Tryd.ntmps75
    go_wp2_with fail
    refine HX.out.mono ?_; rintro e w1 ⟨rfl, hG1⟩
    subst hx
    go_wp2_with fail
    go_ret
    exact ⟨rfl, hG1⟩
  · rw [hb]
    clear hb
    go_enter Tryd.func75, Tryd.ntmps75
    go_wp2_with fail
    refine HX.out.mono ?_; rintro e w1 ⟨rfl, hG1⟩
    go_wp2_with fail
    go_ret
    exact ⟨rfl, hG1⟩
/-- The error of keys that were asked for. -/
def askErr (l : List Cd) (seen : List ByteArray) : List ByteArray → Int
  | [] => 0
  | k :: r => if cdHas l k = false then 8 else if hasK seen k = true then 6 else askErr l (seen ++ [k]) r
def askE (l : List Cd) (ks : List ByteArray) : Int := if 10 < ks.length then 2 else askErr l [] ks
def AskRel (w : World) (l : List Cd) (ks : List ByteArray) (i : Value) (wr : World) : Prop :=
  ∃ k : Nat, k ≤ ks.length ∧ i = .int .i64 k ∧ askErr l [] ks = askErr l (ks.take k) (ks.drop k) ∧ G w wr none
theorem take_snoc_s {l : List ByteArray} {k : Nat} {p : ByteArray} (hp : l[k]? = some p) : l.take (k + 1) = l.take k ++ [p] := by
  have hk : k < l.length := (List.getElem?_eq_some_iff.1 hp).1
  rw [List.take_succ_eq_append_getElem hk, (List.getElem?_eq_some_iff.1 hp).2]
set_option maxRecDepth 100000 in
theorem known_c (v : Value) (l : List Cd) (t : ByteArray) (g : Nat) (w : World) (hr : RdR w 6 cdC v l) (hn : l.length ≤ 1000) (hB : Bk w g 62 #[v]) :
    Calls Tryd.prog 102 #[.string t, .pointer (some ⟨g, 0, none⟩)] w fun e w' => e = .returned (.bool (cdHas l t)) ∧ G w w' none := by
  have hmf : ∀ (fn : Go.Fn) (first cap : Array Value) (w : World), (Instr.makeFunc fn first cap).run Tryd.prog w = .ok (.func fn first cap) w := fun _ _ _ _ => rfl
  have HR := Lib.hid (hr.quiet ((G.refl w none).alloc (.cells #[.string t] 9)))
  have hc : (w.alloc (.cells #[.string t] 9)).cell? ⟨g, 0, none⟩ = some v := (hB.alloc (.cells #[.string t] 9)).cell 0
  have hc0 : w.cell? ⟨g, 0, none⟩ = some v := hB.cell 0
  have hg := hB.lt
  clear hr hB
  go_enter Tryd.func102, Tryd.ntmps102
  go_wp2_with fail
  refine (cdContains1_c v l t w.heap.size _ (clos1_c t _) HR.out hn (Bk.new w _ _)).mono ?_; rintro e w1 ⟨rfl, hG1⟩
  go_wp2_with fail
  go_ret
  exact ⟨rfl, ((G.refl w none).alloc _).trans hG1⟩
set_option maxRecDepth 100000 in
set_option maxHeartbeats 4000000 in
theorem checkAsked_c (v u : Value) (l : List Cd) (ks : List ByteArray) (g : Nat) (w : World) (hr : RdR w 6 cdC v l) (hn : l.length ≤ 1000) (hB : Bk w g 62 #[v]) (hs : RdS w u ks) (hk1 : ks.length ≤ 1000) :
    Calls Tryd.prog 104 #[u, .func (.func 102) #[] #[.pointer (some ⟨g, 0, none⟩)]] w fun e w' => e = .returned (.int .i64 (askE l ks)) ∧ G w w' none := by
  have HR := Lib.hid hr
  have HS := Lib.hid hs
  have HBB := Lib.hid hB
  obtain ⟨a, cap, rfl, hcap, hm, hlen, hnil, _⟩ := hs
  clear hr hB hlen
  by_cases h10 : 10 < ks.length
  · have H := Lib.hid (show askE l ks = 2 by simp [askE, h10])
    go_enter Tryd.func104, Tryd.ntmps104
    go_wp2_with fail
    go_ret
    exact ⟨by rw [H.out]; rfl, G.refl _ _⟩
  · have H := Lib.hid (show askE l ks = askErr l [] ks by simp [askE, h10])
    go_enter Tryd.func104, Tryd.ntmps104
    go_wp2_with fail
    go_loopw [12] (AskRel w l ks) (fun i _ => ks.length - (intOf i).toNat)
    case atStart => exact ⟨0, by omega, rfl, rfl, G.refl _ _⟩
    case round =>
      obtain ⟨k, hkl, rfl, heq, hG⟩ := hrel
      have HE := Lib.hid heq
      clear heq
      by_cases hlt : k < ks.length
      · obtain ⟨t, ht⟩ : ∃ t, ks[k]? = some t := ⟨_, List.getElem?_eq_getElem hlt⟩
        have HD : Hid (askErr l [] ks = if cdHas l t = false then 8 else if hasK (ks.take k) t = true then 6 else askErr l (ks.take (k + 1)) (ks.drop (k + 1))) := Lib.hid (by
          rw [HE.out, List.drop_eq_getElem_cons hlt, (List.getElem?_eq_some_iff.1 ht).2, take_snoc_s ht]; rfl)
        cases a with
        | none => have := (hnil rfl).1; omega
        | some ad =>
          obtain ⟨bb, bo, rfl, hbb, hcell⟩ := rdS_cell HS.out
          have hc := ((gcell hG).1 bb (bo + k) hbb).trans (hcell k t ht)
          have HP := Lib.hid ((rdS_prefix HS.out k hkl).quiet hG)
          have hki : (k : Int) ≤ (ks.length : Int) := by omega
          have hk0 : (0 : Int) ≤ (k : Int) := by omega
          clear hcell ht HE
          go_wp2_with fail
          refine (known_c v l t g _ (HR.out.quiet hG) hn (HBB.out.quiet hG)).mono ?_; rintro e w1 ⟨rfl, hG1⟩
          have hG01 := hG.trans hG1
          have HP1 := Lib.hid (HP.out.quiet hG1)
          clear hG hc HP
          cases hh : cdHas l t with
          | false =>
            have HF : Hid (askE l ks = 8) := Lib.hid (by rw [H.out, HD.out, if_pos hh])
            clear hh HD
            go_wp2_with fail
            go_ret
            exact ⟨by rw [HF.out]; rfl, hG01⟩
          | true =>
            have HD2 : Hid (askErr l [] ks = if hasK (ks.take k) t = true then 6 else askErr l (ks.take (k + 1)) (ks.drop (k + 1))) := Lib.hid (by rw [HD.out, if_neg (by simp [hh])])
            clear hh HD
            go_wp2_with fail
            refine (sContains_c _ (ks.take k) t _ HP1.out (by rw [List.length_take]; omega)).mono ?_; rintro e w' ⟨rfl, rfl⟩
            cases hh : hasK (ks.take k) t with
            | true =>
              have HF : Hid (askE l ks = 6) := Lib.hid (by rw [H.out, HD2.out, if_pos hh])
              clear hh HD2
              go_wp2_with fail
              go_ret
              exact ⟨by rw [HF.out]; rfl, hG01⟩
            | false =>
              have HF : Hid (askErr l [] ks = askErr l (ks.take (k + 1)) (ks.drop (k + 1))) := Lib.hid (by rw [HD2.out, if_neg (by simp [hh])])
              clear hh HD2
              go_wp2_with fail
              go_roundw
              case rel => exact ⟨k + 1, by omega, by go_num, HF.out, hG01⟩
              case measure => simp [intOf]; omega
      · obtain rfl : k = ks.length := by omega
        have HF : Hid (askE l ks = 0) := Lib.hid (by rw [H.out, HE.out, List.drop_length]; rfl)
        go_wp2_with fail
        go_ret
        exact ⟨by rw [HF.out]; rfl, hG⟩
set_option maxRecDepth 100000 in
set_option maxHeartbeats 4000000 in
theorem codeKeysFault_c (v u : Value) (l : List Cd) (ks : List ByteArray) (w : World) (hr : RdR w 6 cdC v l) (hn : l.length ≤ 1000) (hs : RdS w u ks) (hk1 : ks.length ≤ 1000) :
    Calls Tryd.prog 38 #[v, u] w fun e w' => e = .returned (.int .i64 (askE l ks)) ∧ G w w' none := by
  have hmf : ∀ (fn : Go.Fn) (first cap : Array Value) (w : World), (Instr.makeFunc fn first cap).run Tryd.prog w = .ok (.func fn first cap) w := fun _ _ _ _ => rfl
  have HR := Lib.hid hr
  have HS := Lib.hid hs
  obtain ⟨a, cap, rfl, hcap, hm, hlen, hnil, _⟩ := hs
  clear hr hlen
  by_cases h10 : 10 < ks.length
  · have H := Lib.hid (show askE l ks = 2 by simp [askE, h10])
    go_enter Tryd.func38, Tryd.ntmps38
    go_wp2_with fail
    go_ret
    exact ⟨by rw [H.out]; rfl, G.refl _ _⟩
  · have H := Lib.hid (show askE l ks = askErr l [] ks by simp [askE, h10])
    go_enter Tryd.func38, Tryd.ntmps38
    go_wp2_with fail
    go_loopw [12] (AskRel w l ks) (fun i _ => ks.length - (intOf i).toNat)
    case atStart => exact ⟨0, by omega, rfl, rfl, G.refl _ _⟩
    case round =>
      obtain ⟨k, hkl, rfl, heq, hG⟩ := hrel
      have HE := Lib.hid heq
      clear heq
      by_cases hlt : k < ks.length
      · obtain ⟨t, ht⟩ : ∃ t, ks[k]? = some t := ⟨_, List.getElem?_eq_getElem hlt⟩
        have HD : Hid (askErr l [] ks = if cdHas l t = false then 8 else if hasK (ks.take k) t = true then 6 else askErr l (ks.take (k + 1)) (ks.drop (k + 1))) := Lib.hid (by
          rw [HE.out, List.drop_eq_getElem_cons hlt, (List.getElem?_eq_some_iff.1 ht).2, take_snoc_s ht]; rfl)
        cases a with
        | none => have := (hnil rfl).1; omega
        | some ad =>
          obtain ⟨bb, bo, rfl, hbb, hcell⟩ := rdS_cell HS.out
          have hc := ((gcell hG).1 bb (bo + k) hbb).trans (hcell k t ht)
          have hA := hG.alloc (.cells #[.string t] 9)
          have hN := Bk.new wr 9 #[.string t]
          have HP := Lib.hid ((rdS_prefix HS.out k hkl).quiet hA)
          have hki : (k : Int) ≤ (ks.length : Int) := by omega
          have hk0 : (0 : Int) ≤ (k : Int) := by omega
          clear hcell ht HE hG
          go_wp2_with fail
          refine (cdContains2_c v l t wr.heap.size _ (clos2_c t _) (HR.out.quiet hA) hn hN).mono ?_; rintro e w1 ⟨rfl, hG1⟩
          have hG01 := hA.trans hG1
          have HP1 := Lib.hid (HP.out.quiet hG1)
          have hN1 := hN.quiet hG1
          clear hA hc HP hG1 hN
          generalize wr.heap.size = g at hN1 ⊢
          have hct : w1.cell? ⟨g, 0, none⟩ = some (.string t) := hN1.cell 0
          clear hN1
          cases hh : cdHas l t with
          | false =>
            have HF : Hid (askE l ks = 8) := Lib.hid (by rw [H.out, HD.out, if_pos hh])
            clear hh HD
            go_wp2_with fail
            go_ret
            exact ⟨by rw [HF.out]; rfl, hG01⟩
          | true =>
            have HD2 : Hid (askErr l [] ks = if hasK (ks.take k) t = true then 6 else askErr l (ks.take (k + 1)) (ks.drop (k + 1))) := Lib.hid (by rw [HD.out, if_neg (by simp [hh])])
            clear hh HD
            go_wp2_with fail
            go_quiet ((go_at_call 73; exact Calls.quiet_of_same ((sContains_c _ (ks.take k) t _ (HP1.out.quiet ((G.refl w1 none).drewN _)) (by rw [List.length_take]; omega)).mono fun _ _ h => ⟨h.1, h.2.symm⟩)))
            have hGq := hG01.drewN nq
            cases hh : hasK (ks.take k) t with
            | true =>
              have HF : Hid (askE l ks = 6) := Lib.hid (by rw [H.out, HD2.out, if_pos hh])
              clear hh HD2
              go_wp2_with fail
              go_ret
              exact ⟨by rw [HF.out]; rfl, hGq⟩
            | false =>
              have HF : Hid (askErr l [] ks = askErr l (ks.take (k + 1)) (ks.drop (k + 1))) := Lib.hid (by rw [HD2.out, if_neg (by simp [hh])])
              clear hh HD2
              go_wp2_with fail
              go_roundw
              case rel => exact ⟨k + 1, by omega, by go_num, HF.out, hGq⟩
              case measure => simp [intOf]; omega
      · obtain rfl : k = ks.length := by omega
        have HF : Hid (askE l ks = 0) := Lib.hid (by rw [H.out, HE.out, List.drop_length]; rfl)
        go_wp2_with fail
        go_ret
        exact ⟨by rw [HF.out]; rfl, hG⟩
end Go.Proofs.YtgofeigebldkiaaDoor
