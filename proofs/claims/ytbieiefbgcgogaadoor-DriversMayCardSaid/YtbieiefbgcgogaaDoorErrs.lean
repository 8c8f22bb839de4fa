/- The law's own 'errs'. -/
import Derived.Test.YtbieiefbgcgogaaDoorNof
namespace Go.Proofs.YtbieiefbgcgogaaDoor
open Go.RowKit

/-- The first error of some. -/
def errsOf : List Int → Int
  | [] => 0
  | e :: r => if e = 0 then errsOf r else e
def ErrsRel (es : List Int) (i : Value) : Prop := ∃ k : Nat, k ≤ es.length ∧ i = .int .i64 k ∧ errsOf es = errsOf (es.drop k)
set_option maxRecDepth 100000 in
set_option maxHeartbeats 1000000 in
theorem errs_c (es : List Int) (v : Value) (w : World) (hr : Rd w 1 v es.length (es.map (Value.int .i64))) (hn : es.length ≤ 1000) :
    Calls Tryd.prog 15 #[v] w fun e w' => e = .returned (.int .i64 (errsOf es)) ∧ w = w' := by
  obtain ⟨a, cap, rfl, hcap, hm, hlen, hnil, hcell⟩ := hr
  go_enter Tryd.func15, Tryd.ntmps15
  go_wp2_with fail
  go_loop [7] (ErrsRel es) (fun i => es.length - (intOf i).toNat)
  case atStart => exact ⟨0, by omega, rfl, rfl⟩
  case round =>
    obtain ⟨k, hk, rfl, heq⟩ := hrel
    have HE := Lib.hid heq
    clear heq
    by_cases hlt : k < es.length
    · obtain ⟨x, hx⟩ : ∃ x, es[k]? = some x := ⟨_, List.getElem?_eq_getElem hlt⟩
      have HD : Hid (errsOf es = if x = 0 then errsOf (es.drop (k + 1)) else x) := Lib.hid (by
        rw [HE.out, List.drop_eq_getElem_cons hlt, (List.getElem?_eq_some_iff.1 hx).2]; rfl)
      cases a with
      | none => have := (hnil rfl).1; omega
      | some ad =>
        obtain ⟨bb, bo, bs⟩ := ad
        obtain ⟨e1, e2, e3⟩ := hcell _ rfl
        dsimp only at e1 e2 e3
        subst e1
        have hc := e3 k (.int .i64 x) (by rw [List.getElem?_map, hx]; rfl)
        clear hcell e3 hnil hx
        by_cases h0 : x = 0
        · subst h0
          have HF : Hid (errsOf es = errsOf (es.drop (k + 1))) := Lib.hid (by rw [HD.out, if_pos rfl])
          go_wp2_with fail
          go_round
          case rel => exact ⟨k + 1, by omega, by go_num, HF.out⟩
          case measure => simp [intOf]; omega
        · have HF : Hid (errsOf es = x) := Lib.hid (by rw [HD.out, if_neg h0])
          have h1 : (x != 0) = true := by rw [bne_iff_ne]; exact h0
          clear h0
          go_wp2_with fail
          go_ret
          exact ⟨ret_int HF.out.symm, rfl⟩
    · obtain rfl : k = es.length := by omega
      have HF : Hid (errsOf es = 0) := Lib.hid (by rw [HE.out, List.drop_length]; rfl)
      go_wp2_with fail
      go_ret
      exact ⟨ret_int HF.out.symm, rfl⟩
theorem errs_at (r : ByteArray) (h : Nat → Int) (t : Int) : errsOf [stErr [(r, h)], momE t] = atE r h t := by
  unfold atE
  show (if stErr [(r, h)] = 0 then (if momE t = 0 then 0 else momE t) else stErr [(r, h)]) = _
  by_cases h1 : stErr [(r, h)] = 0
  · rw [if_pos h1, if_pos h1]
    split
    · omega
    · rfl
  · rw [if_neg h1, if_neg h1]
theorem errs_min (r : ByteArray) (h : Nat → Int) (x y : Int) : errsOf [stErr [(r, h)], winE x y] = minE r h x y := by
  unfold minE
  show (if stErr [(r, h)] = 0 then (if winE x y = 0 then 0 else winE x y) else stErr [(r, h)]) = _
  by_cases h1 : stErr [(r, h)] = 0
  · rw [if_pos h1, if_pos h1]
    split
    · omega
    · rfl
  · rw [if_neg h1, if_neg h1]
end Go.Proofs.YtbieiefbgcgogaaDoor
