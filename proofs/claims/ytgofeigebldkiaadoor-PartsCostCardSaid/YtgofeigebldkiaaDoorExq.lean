/- Extras: ExtraCost, and its reference. -/
import Derived.Test.YtgofeigebldkiaaDoorExt
namespace Go.Proofs.YtgofeigebldkiaaDoor
open Go.RowKit

def exF (k : ByteArray) (x : Ext) : Bool := eqB x.1 k
def exAt (l : List Ext) (k : ByteArray) : Int := ixP (exF k) l 0
theorem exClo_c (p : Ext) (t : ByteArray) (g : Nat) (w : World) (hB : Bk w g 9 #[.string t]) : Calls Tryd.prog 101 #[.agg (exC p), .pointer (some ⟨g, 0, none⟩)] w fun e w' => e = .returned (.bool (exF t p)) ∧ G w w' none := by
  have hc := (Bk.new w 106 (exC p)).cell 0
  rw [show (exC p)[0]? = some (.string p.1) from rfl] at hc
  have hc2 := (hB.alloc (.cells (exC p) 106)).cell 0
  rw [show (#[Value.string t] : Array Value)[0]? = some (.string t) from rfl] at hc2
  have hd : exF t p = eqB p.1 t := rfl
  cases he : eqB p.1 t with
  | true =>
    rw [he] at hd
    have HD := Lib.hid hd
    clear hd
    unfold eqB at he
    go_enter Tryd.func101, Tryd.ntmps101
    go_wp2_with fail
    go_ret
    exact ⟨ret_bool HD.out.symm, (G.refl _ _).alloc _⟩
  | false =>
    rw [he] at hd
    have HD := Lib.hid hd
    clear hd
    unfold eqB at he
    go_enter Tryd.func101, Tryd.ntmps101
    go_wp2_with fail
    go_ret
    exact ⟨ret_bool HD.out.symm, (G.refl _ _).alloc _⟩
def IxeRel (w : World) (l : List Ext) (t : ByteArray) (i : Value) (wr : World) : Prop :=
  ∃ k : Nat, k ≤ l.length ∧ i = .int .i64 k ∧ exAt l t = ixP (exF t) (l.drop k) k ∧ G w wr none
set_option maxRecDepth 100000 in
set_option maxHeartbeats 2000000 in
theorem ixe_c (v : Value) (l : List Ext) (t : ByteArray) (g : Nat) (w : World) (hr : RdR w 4 exC v l) (hn : l.length ≤ 1000) (hB : Bk w g 9 #[.string t]) :
    Calls Tryd.prog 100 #[v, .func (.func 101) #[] #[.pointer (some ⟨g, 0, none⟩)]] w fun e w' => e = .returned (.int .i64 (exAt l t)) ∧ G w w' none := by
  have HR := Lib.hid hr
  obtain ⟨a, cap, rfl, hcap, hm⟩ := RdR.form hr
  clear hr
  go_enter Tryd.func100, Tryd.ntmps100
  go_wp2_with fail
  go_loopw [8] (IxeRel w l t) (fun i _ => l.length - (intOf i).toNat)
  case atStart => exact ⟨0, by omega, rfl, rfl, G.refl _ _⟩
  case round =>
    obtain ⟨k, hk, rfl, heq, hG⟩ := hrel
    have HE := Lib.hid heq
    clear heq
    by_cases hlt : k < l.length
    · obtain ⟨p, hp⟩ : ∃ p, l[k]? = some p := ⟨_, List.getElem?_eq_getElem hlt⟩
      have HD : Hid (exAt l t = if exF t p = true then (k : Int) else ixP (exF t) (l.drop (k + 1)) ((k : Int) + 1)) := Lib.hid (by
        rw [HE.out, List.drop_eq_getElem_cons hlt, (List.getElem?_eq_some_iff.1 hp).2]; rfl)
      obtain ⟨bb, bo, rfl, hbb, hrow⟩ := RdR.elem exC_sz HR.out hG hp
      have HW := Lib.hid hrow
      clear hrow hp
      go_wp2_with (refine wpList_load_at rfl 106 _ rfl ⟨bb, bo + k * 4, none⟩ rfl (exC p) _ HW.out Tryd.underlying106 rfl (ex_info p) ?_)
      refine (exClo_c p t g _ (hB.quiet hG)).mono ?_; rintro e w1 ⟨rfl, hG1⟩
      cases he : exF t p with
      | true =>
        have HF : Hid (exAt l t = k) := Lib.hid (by rw [HD.out, if_pos he])
        clear he
        go_wp2_with fail
        go_ret
        exact ⟨ret_int HF.out.symm, hG.trans hG1⟩
      | false =>
        have HF : Hid (exAt l t = ixP (exF t) (l.drop (k + 1)) ((k + 1 : Nat) : Int)) := Lib.hid (by rw [HD.out, if_neg (by simp [he])]; rfl)
        clear he
        go_wp2_with fail
        go_roundw
        case rel => exact ⟨k + 1, by omega, by go_num, HF.out, hG.trans hG1⟩
        case measure => simp [intOf]; omega
    · obtain rfl : k = l.length := by omega
      have HF : Hid (exAt l t = -1) := Lib.hid (by rw [HE.out, List.drop_length]; rfl)
      go_wp2_with fail
      go_ret
      exact ⟨ret_int HF.out.symm, hG⟩
set_option maxRecDepth 100000 in
set_option maxHeartbeats 1000000 in
theorem indexOfExtra_c (v : Value) (l : List Ext) (t : ByteArray) (w : World) (hr : RdR w 4 exC v l) (hn : l.length ≤ 1000) :
    Calls Tryd.prog 68 #[v, .string t] w fun e w' => e = .returned (.int .i64 (exAt l t)) ∧ G w w' none := by
  have hmf : ∀ (fn : Go.Fn) (first cap : Array Value) (w : World), (Instr.makeFunc fn first cap).run Tryd.prog w = .ok (.func fn first cap) w := fun _ _ _ _ => rfl
  have HR := Lib.hid hr
  clear hr
  go_enter Tryd.func68, Tryd.ntmps68
  go_wp2_with fail
  refine (ixe_c v l t w.heap.size _ (HR.out.quiet ((G.refl _ _).alloc _)) hn (Bk.new w _ _)).mono ?_; rintro e w1 ⟨rfl, hG1⟩
  go_wp2_with fail
  go_ret
  exact ⟨rfl, ((G.refl w none).alloc _).trans hG1⟩
/-- An extra within its bounds. -/
def ExIn (x : Ext) : Prop := (0 ≤ x.2.1 ∧ x.2.1 ≤ 1000000) ∧ (0 ≤ x.2.2.1 ∧ x.2.2.1 ≤ 1000000) ∧ (-1 ≤ x.2.2.2 ∧ x.2.2.2 ≤ 1000000)
theorem exErr_in {b : ByteArray} {l : List Ext} (h : exErr b l = 0) : ∀ x ∈ l, ExIn x := by
  induction l generalizing b with
  | nil => intro x hx; cases hx
  | cons y r ih =>
    intro x hx
    unfold exErr at h
    split at h
    · omega
    · split at h
      · omega
      · split at h
        · omega
        · rename_i hb
          rcases List.mem_cons.1 hx with rfl | hx
          · unfold exBad inB at hb
            simp only [Bool.or_eq_true, Bool.not_eq_true', Bool.and_eq_false_iff, decide_eq_false_iff_not, not_or, Bool.not_eq_true, not_and] at hb
            unfold ExIn
            omega
          · exact ih h x hx
theorem exE_zero {l : List Ext} (h : exE l = 0) : exErr ⟨#[]⟩ l = 0 ∧ l.length ≤ 30 := by
  unfold exE at h
  split at h
  · omega
  · exact ⟨h, by omega⟩
def costF (x : Ext) (d : Int) : Int := x.2.1 + (if x.2.2.2 = -1 then x.2.2.1 * d else min (x.2.2.1 * d) x.2.2.2)
theorem mul_in {y d : Int} (h1 : 0 ≤ y) (h2 : y ≤ 1000000) (h3 : 0 ≤ d) (h4 : d ≤ 1000) : 0 ≤ y * d ∧ y * d ≤ 1000000000 := by
  refine ⟨Int.mul_nonneg h1 h3, ?_⟩
  have h5 : y * d ≤ 1000000 * d := Int.mul_le_mul_of_nonneg_right h2 h3
  omega
set_option maxRecDepth 100000 in
set_option maxHeartbeats 1000000 in
theorem costOfExtra_c (x : Ext) (d : Int) (w : World) (hx : ExIn x) (h3 : 0 ≤ d) (h4 : d ≤ 1000) :
    Calls Tryd.prog 69 #[.agg (exC x), .int .i64 d] w fun e w' => e = .returned (.int .i64 (costF x d)) ∧ G w w' none := by
  obtain ⟨⟨a1, a2⟩, ⟨b1, b2⟩, c1, c2⟩ := hx
  obtain ⟨m1, m2⟩ := mul_in b1 b2 h3 h4
  have hB := Bk.new w 106 (exC x)
  have hc1 := hB.cell 1
  have hc2 := hB.cell 2
  have hc3 := hB.cell 3
  rw [show (exC x)[1]? = some (.int .i64 x.2.1) from rfl] at hc1
  rw [show (exC x)[2]? = some (.int .i64 x.2.2.1) from rfl] at hc2
  rw [show (exC x)[3]? = some (.int .i64 x.2.2.2) from rfl] at hc3
  by_cases hm : x.2.2.2 = -1
  · have H : Hid (costF x d = x.2.1 + x.2.2.1 * d) := Lib.hid (by rw [costF, if_pos hm])
    have hmb : (x.2.2.2 != -1) = false := by rw [hm]; rfl
    clear hB
    go_enter Tryd.func69, Tryd.ntmps69
    go_wp2_with fail
    go_ret
    exact ⟨ret_int H.out.symm, (G.refl _ _).alloc _⟩
  · have H : Hid (costF x d = x.2.1 + min (x.2.2.1 * d) x.2.2.2) := Lib.hid (by rw [costF, if_neg hm])
    have hmb : (x.2.2.2 != -1) = true := by rw [bne_iff_ne]; exact hm
    clear hB
    go_enter Tryd.func69, Tryd.ntmps69
    go_wp2_with fail
    go_ret
    exact ⟨ret_int H.out.symm, (G.refl _ _).alloc _⟩
end Go.Proofs.YtgofeigebldkiaaDoor
