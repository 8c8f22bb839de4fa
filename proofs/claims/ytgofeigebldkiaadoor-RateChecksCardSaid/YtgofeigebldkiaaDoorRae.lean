/- Rates: seasonOn, RateOn; the reference's RateAt. -/
import Derived.Test.YtgofeigebldkiaaDoorRac
import Derived.Laws.ResultCell
namespace Go.Proofs.YtgofeigebldkiaaDoor
open Go.RowKit

/-- Two results, the first a struct that lies in memory. -/
theorem results_cell_two {P : Program} {fn : Func} {p u : Tmp} {ty : TypeId} (h : fn.results = #[.cell p ty, .tmp u]) (tmps : Array Value) (w : World) (g : Nat) (t : TypeId) (cs : Array Value) (fr : Nat × Nat) (d : TypeDesc)
    (hp : tmps.getD p undef = .pointer (some ⟨g, 0, none⟩)) (hg : w.heap[g]? = some (.cells cs t fr))
    (hu : P.underlying ty = some d) (hd : (match d with | .struct _ | .array _ _ => true | _ => false) = true) (hi : (P.info? ty).map (·.size) = some cs.size) :
    (results fn tmps).run P w = .ok (.tuple #[.agg cs, tmps.getD u undef]) w := by
  have hp' : tmps[p]?.getD undef = .pointer (some ⟨g, 0, none⟩) := by simpa using hp
  simp [results, h, hp', asAddr, run_loadVar_row w g t ty cs fr d hg hu hd hi]
theorem raC_one (r : Ra) : ∀ u ∈ (raC r).toList, u.oneCell' = true := by
  intro u hu
  simp [raC] at hu
  rcases hu with rfl | rfl | rfl | rfl | rfl | rfl | rfl <;> rfl
def raZ : Ra := (⟨#[]⟩, 0, 0, 0, 0, 0, 0)
def raF (k : ByteArray) (d : Int) (x : Ra) : Bool := eqB x.1 k && (decide (x.2.1 ≤ d) && decide (d < x.2.2.1))
/-- The pointer to the element of that number; below 0: nil. -/
def raPtr : Value → Int → Value
  | .slice (some ⟨b, o, _⟩) _ _, .ofNat i => .pointer (some ⟨b, o + i * 7, none⟩)
  | _, _ => .pointer none
def SeaRel (w : World) (l : List Ra) (k : ByteArray) (d : Int) (i : Value) (wr : World) : Prop :=
  ∃ n : Nat, n ≤ l.length ∧ i = .int .i64 n ∧ ixP (raF k d) l 0 = ixP (raF k d) (l.drop n) n ∧ w = wr
set_option maxRecDepth 100000 in
set_option maxHeartbeats 4000000 in
theorem seasonOn_c (v : Value) (l : List Ra) (k : ByteArray) (d : Int) (w : World) (hr : RdR w 7 raC v l) (hn : l.length ≤ 1000) :
    Calls Tryd.prog 61 #[v, .string k, .int .i64 d] w fun e w' => e = .returned (raPtr v (ixP (raF k d) l 0)) ∧ w = w' := by
  have HR := Lib.hid hr
  obtain ⟨a, cap, rfl, hcap, hm⟩ := RdR.form hr
  clear hr
  have HV : Hid (∀ i : Int, raPtr (.slice a l.length cap) i = raPtr (.slice a l.length cap) i) := Lib.hid fun _ => rfl
  go_enter Tryd.func61, Tryd.ntmps61
  go_wp2_with fail
  go_loopw [11] (SeaRel w l k d) (fun i _ => l.length - (intOf i).toNat)
  case atStart => exact ⟨0, by omega, rfl, rfl, rfl⟩
  case round =>
    obtain ⟨n, hnl, rfl, heq, rfl⟩ := hrel
    have HE := Lib.hid heq
    clear heq
    by_cases hlt : n < l.length
    · obtain ⟨p, hp⟩ : ∃ p, l[n]? = some p := ⟨_, List.getElem?_eq_getElem hlt⟩
      have HD : Hid (ixP (raF k d) l 0 = if raF k d p = true then (n : Int) else ixP (raF k d) (l.drop (n + 1)) (n + 1 : Nat)) := Lib.hid (by
        rw [HE.out, List.drop_eq_getElem_cons hlt, (List.getElem?_eq_some_iff.1 hp).2]; rfl)
      obtain ⟨bb, bo, rfl, hbb, _⟩ := RdR.elem raC_sz HR.out (G.refl w none) hp
      have c0 := RdR.cell raC_sz HR.out (G.refl w none) hp 0 (.string p.1) rfl
      have c1 := RdR.cell raC_sz HR.out (G.refl w none) hp 1 (.int .i64 p.2.1) rfl
      have c2 := RdR.cell raC_sz HR.out (G.refl w none) hp 2 (.int .i64 p.2.2.1) rfl
      simp only [Nat.add_zero] at c0
      have HEF : Hid (raF k d p = (eqB p.1 k && (decide (p.2.1 ≤ d) && decide (d < p.2.2.1)))) := Lib.hid rfl
      clear hp
      cases h1 : eqB p.1 k with
      | false =>
        have HF : Hid (ixP (raF k d) l 0 = ixP (raF k d) (l.drop (n + 1)) (n + 1 : Nat)) := Lib.hid (by rw [HD.out, if_neg (by simp [HEF.out, h1])])
        unfold eqB at h1
        clear HD HEF
        go_wp2_with fail
        go_roundw
        case rel => exact ⟨n + 1, by omega, by go_num, HF.out, rfl⟩
        case measure => simp [intOf]; omega
      | true =>
        have H1 := Lib.hid h1
        unfold eqB at h1
        rcases (show d < p.2.1 ∨ (p.2.1 ≤ d ∧ p.2.2.1 ≤ d) ∨ (p.2.1 ≤ d ∧ d < p.2.2.1) by omega) with h2 | ⟨h2, h3⟩ | ⟨h2, h3⟩
        · have HF : Hid (ixP (raF k d) l 0 = ixP (raF k d) (l.drop (n + 1)) (n + 1 : Nat)) := Lib.hid (by rw [HD.out, if_neg (by rw [HEF.out, decide_eq_false (show ¬ p.2.1 ≤ d by omega)]; simp)])
          clear HD HEF
          go_wp2_with fail
          go_roundw
          case rel => exact ⟨n + 1, by omega, by go_num, HF.out, rfl⟩
          case measure => simp [intOf]; omega
        · have HF : Hid (ixP (raF k d) l 0 = ixP (raF k d) (l.drop (n + 1)) (n + 1 : Nat)) := Lib.hid (by rw [HD.out, if_neg (by rw [HEF.out, decide_eq_false (show ¬ d < p.2.2.1 by omega)]; simp)])
          clear HD HEF
          go_wp2_with fail
          go_roundw
          case rel => exact ⟨n + 1, by omega, by go_num, HF.out, rfl⟩
          case measure => simp [intOf]; omega
        · have HF : Hid (ixP (raF k d) l 0 = (n : Int)) := Lib.hid (by rw [HD.out, if_pos (by rw [HEF.out, H1.out, decide_eq_true h2, decide_eq_true h3]; rfl)])
          clear HD HEF
          go_wp2_with fail
          go_ret
          exact ⟨by rw [HF.out]; rfl, rfl⟩
    · obtain rfl : n = l.length := by omega
      have HF : Hid (ixP (raF k d) l 0 = -1) := Lib.hid (by rw [HE.out, List.drop_length]; rfl)
      go_wp2_with fail
      go_ret
      exact ⟨by rw [HF.out]; cases a <;> rfl, rfl⟩
end Go.Proofs.YtgofeigebldkiaaDoor
