/- Spo, Csl, Lay. -/
import Derived.Test.YtamoefnpfkcigaaDoorZa3
import Derived.Test.YtamoefnpfkcigaaDoorZa2
import Derived.Deep.CutRange
import Derived.Test.YtamoefnpfkcigaaDoorRows
import Derived.Test.YtamoefnpfkcigaaDoorTie
import Derived.Test.YtamoefnpfkcigaaDoorCards
import Derived.Test.YtamoefnpfkcigaaDoorZa1
import Derived.LaidMore
import Derived.ChangeSame
import Derived.ProofKit
import Derived.OpenShut
import Derived.PinnedBridge
import Derived.Deep.DeepHandedRow
import Derived.Deep.DeepWitnessRowRef
/- rentref2.SplitOf. Written by genspo.py. -/
namespace Go.Proofs.YtamoefnpfkcigaaDoor
open Go.RowKit

set_option maxRecDepth 100000 in
theorem flag_c (b : Bool) (w : World) : Calls Tryd.prog 46 #[.bool b] w fun e w' => e = .returned (.int .i64 (if b = true then 1 else 0)) ∧ w = w' := by
  cases b
  all_goals
    go_enter Tryd.func46, Tryd.ntmps46
    go_wp2_with fail
    go_ret
    exact ⟨rfl, rfl⟩
def fK (c : Int) (ws : List Int) (k : Nat) : List Int := (List.range k).map (flI c ws)
theorem fK_step (c : Int) (ws : List Int) (k : Nat) : fK c ws (k + 1) = fK c ws k ++ [flI c ws k] := by
  unfold fK
  rw [List.range_succ, List.map_append]
  rfl
theorem fK_len (c : Int) (ws : List Int) (k : Nat) : (fK c ws k).length = k := by simp [fK]
def oneI (c : Int) (ws : List Int) (i : Nat) : Int := if (ahN c ws i : Int) < lK c ws ws.length then 1 else 0
def mK (c : Int) (ws : List Int) (k : Nat) : List Int := (List.range ws.length).map fun i => flI c ws i + (if i < k then oneI c ws i else 0)
theorem mK_len (c : Int) (ws : List Int) (k : Nat) : (mK c ws k).length = ws.length := by simp [mK]
theorem mK_0 (c : Int) (ws : List Int) : fK c ws ws.length = mK c ws 0 := by
  apply List.ext_getElem <;> simp [mK, fK]
theorem mK_all (c : Int) (ws : List Int) : mK c ws ws.length = rfP c ws := by
  unfold mK rfP
  apply List.map_congr_left
  intro i hi
  rw [if_pos (List.mem_range.1 hi)]
  rfl
theorem mK_step (c : Int) (ws : List Int) (k : Nat) : (mK c ws k).set k (flI c ws k + oneI c ws k) = mK c ws (k + 1) := by
  apply List.ext_getElem
  · simp [mK]
  · intro i h1 h2
    simp only [mK, List.getElem_set, List.getElem_map, List.getElem_range]
    by_cases h : k = i
    · rw [if_pos h, if_pos (by omega), h]
    · rw [if_neg h]
      by_cases q : i < k
      · rw [if_pos q, if_pos (by omega)]
      · rw [if_neg q, if_neg (by omega)]
def acN (c : Int) (ws : List Int) (i k : Nat) : Nat := (List.range k).countP (ahB c ws i)
theorem acN_step (c : Int) (ws : List Int) (i k : Nat) : acN c ws i (k + 1) = acN c ws i k + (if ahB c ws i k = true then 1 else 0) := by
  unfold acN
  rw [List.range_succ, List.countP_append, List.countP_singleton]
theorem acN_le (c : Int) (ws : List Int) (i k : Nat) : acN c ws i k ≤ k := by
  unfold acN
  have := List.countP_le_length (p := ahB c ws i) (l := List.range k)
  rwa [List.length_range] at this
def So1 (w : World) (ws : List Int) (s5 i : Value) (wr : World) : Prop := ∃ k : Nat, k ≤ ws.length ∧ i = .int .i64 k ∧ s5 = .int .i64 (ws.take k).sum ∧ w = wr
def So2 (w : World) (c : Int) (ws : List Int) (s8 s9 i : Value) (wr : World) : Prop := ∃ k : Nat, k ≤ ws.length ∧ i = .int .i64 k ∧ s9 = .int .i64 (lK c ws k) ∧ OwnIn wr w.heap.size s8 (fK c ws k) ∧ G w wr none
def So3 (w : World) (c : Int) (ws : List Int) (v : Value) (i : Value) (wr : World) : Prop := ∃ k : Nat, k ≤ ws.length ∧ i = .int .i64 k ∧ OwnIn wr w.heap.size v (mK c ws k) ∧ G w wr none
def So4 (w : World) (c : Int) (ws : List Int) (i : Nat) (s14 s61 : Value) (wr : World) : Prop := ∃ k : Nat, k ≤ ws.length ∧ s61 = .int .i64 k ∧ s14 = .int .i64 (acN c ws i k) ∧ G w wr none
theorem mK_at (c : Int) (ws : List Int) {i : Nat} (h : i < ws.length) : (mK c ws i)[i]? = some (flI c ws i) := by
  unfold mK
  rw [List.getElem?_map, List.getElem?_range h]
  simp
theorem ws_at {c : Int} {ws : List Int} (he : spE c ws = 0) {k : Nat} {p : Int} (hp : ws[k]? = some p) : (0 ≤ c * p ∧ c * p ≤ 5761440000000000) ∧ 0 < ws.sum ∧ flI c ws k = c * p / ws.sum ∧ restI c ws k = c * p % ws.sum := by
  obtain ⟨h1, h2, h3, h4⟩ := spE_ok he
  have hpb : 0 ≤ p ∧ p ≤ 5761440 := by have := h3 p (List.mem_of_getElem? hp); unfold inB at this; simpa using this
  have hsb := (spA_bnd h3)
  have hp1 : 0 ≤ c * p := Int.mul_nonneg h1.1 hpb.1
  have hp2 : c * p ≤ 1000000000 * 5761440 := Int.mul_le_mul h1.2 hpb.2 hpb.1 (by omega)
  refine ⟨⟨hp1, by omega⟩, by omega, ?_, ?_⟩
  · unfold flI; rw [List.getD_eq_getElem?_getD, hp]; rfl
  · unfold restI; rw [List.getD_eq_getElem?_getD, hp]; rfl
set_option maxRecDepth 100000 in
set_option maxHeartbeats 8000000 in
theorem splitOf_c (c : Int) (v : Value) (ws : List Int) (w : World) (hr : RdI w v ws) (he : spE c ws = 0) :
    Calls Tryd.prog 11 #[.int .i64 c, v] w fun e w' => ∃ v', e = .returned v' ∧ RdI w' v' (rfP c ws) ∧ G w w' none := by
  obtain ⟨a, cap, rfl, hcap, hm⟩ := RdR.form hr
  have HR := Lib.hid hr
  have HE := Lib.hid he
  obtain ⟨h1, h2, h3, h4⟩ := spE_ok he
  have H3 := Lib.hid h3
  obtain ⟨RF, hRF⟩ : ∃ RF, rfP c ws = RF := ⟨_, rfl⟩
  have HRF := Lib.hid hRF
  rw [hRF]
  clear hRF hr he h1 h3 h4
  go_enter Tryd.func11, Tryd.ntmps11
  go_wp2_with fail
  go_loopw [5, 21] (So1 w ws) (fun _ i _ => ws.length - (intOf i).toNat)
  case atStart => exact ⟨0, by omega, rfl, rfl, rfl⟩
  case round =>
    obtain ⟨k, hk, rfl, rfl, rfl⟩ := hrel
    by_cases hlt : k < ws.length
    · obtain ⟨p, hp⟩ : ∃ p, ws[k]? = some p := ⟨_, List.getElem?_eq_getElem hlt⟩
      obtain ⟨bb, bo, rfl, -, -⟩ := RdR.elem inC_sz HR.out (G.refl _ none) hp
      have hc := RdR.cell inC_sz HR.out (G.refl _ none) hp 0 (.int .i64 p) rfl
      simp only [Nat.add_zero, Nat.mul_one] at hc
      have hsb := spA_bnd (fun n (hn : n ∈ ws.take k) => H3.out n (List.mem_of_mem_take hn))
      have hpb : 0 ≤ p ∧ p ≤ 5761440 := by have := H3.out p (List.mem_of_getElem? hp); unfold inB at this; simpa using this
      have hlen : ((ws.take k).length : Int) ≤ 50 := by rw [List.length_take]; omega
      have hw : IntKind.i64.wrap ((ws.take k).sum + p) = (ws.take k).sum + p := by rw [IntKind.wrap_i64]; omega
      have HT := Lib.hid (sum_take_succ ws k p hp)
      generalize (ws.take k).sum = SK at hw HT hsb ⊢
      have HK := Lib.hid hlt
      clear hsb hlen hp
      go_wp2_with fail
      go_roundw
      case rel => exact ⟨k + 1, by omega, by go_num, by rw [HT.out], rfl⟩
      case measure => have := HK.out; simp [intOf]; omega
    · obtain rfl : k = ws.length := by omega
      rw [List.take_length]
      go_wp2_with fail
      go_loopw [8, 9, 32] (So2 w c ws) (fun _ _ i _ => ws.length - (intOf i).toNat)
      case atStart => exact ⟨0, by omega, rfl, by rw [show lK c ws 0 = c by simp [lK]], World.ownsRow_nil _ _ _ _, G.refl _ _⟩
      case round =>
        obtain ⟨k, hk, rfl, rfl, hown, hG⟩ := hrel
        by_cases hlt : k < ws.length
        · obtain ⟨p, hp⟩ : ∃ p, ws[k]? = some p := ⟨_, List.getElem?_eq_getElem hlt⟩
          obtain ⟨⟨p1, p2⟩, s0, hfl, -⟩ := ws_at HE.out hp
          obtain ⟨bb, bo, rfl, -, -⟩ := RdR.elem inC_sz HR.out hG hp
          have hc := RdR.cell inC_sz HR.out hG hp 0 (.int .i64 p) rfl
          simp only [Nat.add_zero, Nat.mul_one] at hc
          have hfb := fl_bnd HE.out k
          have hlb := lK_bnd HE.out k (by omega)
          have HST := Lib.hid (lK_step c ws k)
          have HFS := Lib.hid (fK_step c ws k)
          obtain ⟨fl, hfl2⟩ : ∃ fl, flI c ws k = fl := ⟨_, rfl⟩
          rw [hfl2] at hfl hfb HST HFS
          clear hfl2 hp
          generalize ws.sum = s at hfl s0 ⊢
          obtain ⟨m, hm2⟩ : ∃ m, c * p = m := ⟨_, rfl⟩
          have hw1 : IntKind.i64.wrap (c * p) = m := by rw [hm2, IntKind.wrap_i64]; omega
          rw [hm2] at p1 p2 hfl
          have htd : m.tdiv s = fl := by rw [Int.tdiv_eq_ediv_of_nonneg p1, hfl]
          have hed : m / s = fl := hfl.symm
          have hwf : IntKind.i64.wrap fl = fl := by rw [IntKind.wrap_i64]; omega
          have hwl : IntKind.i64.wrap (lK c ws k - fl) = lK c ws (k + 1) := by rw [HST.out, IntKind.wrap_i64]; omega
          have hsn : ¬ s = 0 := by omega
          have HK := Lib.hid hlt
          have hln : (fK c ws k).length ≤ 1000 := by rw [fK_len]; omega
          have hownA := OwnX.alloc hown (.cells #[.int .i64 fl] 3)
          have hsz := hG.size
          have hob := OwnX.low hown
          clear hfb hlb hm2 hfl hlt
          go_wp2_with (at_builtin; refine wpList_plain rfl fun K' hK' => wp_append_x in_rowOk _ _ rfl w.heap.size u8 (fK c ws k) rfl hownA wr.heap.size fl rfl (Bk.new wr _ _) hln (by simp; omega) ?_; intro v8 w8 hown8 hgrow; refine hK' _ _ ?_)
          go_roundw
          case rel => exact ⟨k + 1, by omega, by go_num, rfl, by rw [HFS.out]; exact hown8, (hG.alloc _).other hgrow (fun r e => .inl (hob r e))⟩
          case measure => have := HK.out; simp [intOf]; omega
        · obtain rfl : k = ws.length := by omega
          rw [mK_0] at hown
          obtain ⟨L, hL⟩ : ∃ L, lK c ws ws.length = L := ⟨_, rfl⟩
          have HLE := Lib.hid hL
          rw [hL]
          clear hL
          go_wp2_with fail
          go_loopw [54] (So3 w c ws u8) (fun i _ => ws.length - (intOf i).toNat)
          case atStart => exact ⟨0, by omega, rfl, hown, hG⟩
          case round =>
            clear hown hG
            obtain ⟨i, hi, rfl, hown, hG⟩ := hrel
            by_cases hlt2 : i < ws.length
            · obtain ⟨p, hp⟩ : ∃ p, ws[i]? = some p := ⟨_, List.getElem?_eq_getElem hlt2⟩
              obtain ⟨⟨p1, p2⟩, s0, -, hri⟩ := ws_at HE.out hp
              obtain ⟨bb, bo, rfl, -, -⟩ := RdR.elem inC_sz HR.out hG hp
              have hc := RdR.cell inC_sz HR.out hG hp 0 (.int .i64 p) rfl
              simp only [Nat.add_zero, Nat.mul_one] at hc
              have HI := Lib.hid hlt2
              have HP := Lib.hid (And.intro p1 (And.intro p2 (And.intro s0 hri)))
              have HOWN := Lib.hid hown
              clear hp p1 p2 s0 hri hown
              go_wp2_with fail
              clear hc
              obtain ⟨w3, rfl⟩ : ∃ w3, w3 = wr := ⟨_, rfl⟩
              go_loopw [14, 61] (So4 w3 c ws i) (fun _ j _ => ws.length - (intOf j).toNat)
              case atStart => exact ⟨0, by omega, rfl, by simp [acN], G.refl _ _⟩
              case round =>
                obtain ⟨k, hk, rfl, rfl, hG4⟩ := hrel
                by_cases hltk : k < ws.length
                · obtain ⟨q, hq⟩ : ∃ q, ws[k]? = some q := ⟨_, List.getElem?_eq_getElem hltk⟩
                  obtain ⟨⟨q1, q2⟩, s0, -, hrk⟩ := ws_at HE.out hq
                  obtain ⟨p1, p2, -, hri⟩ := HP.out
                  have hck := RdR.cell inC_sz HR.out (hG.trans hG4) hq 0 (.int .i64 q) rfl
                  simp only [Nat.add_zero, Nat.mul_one] at hck
                  have hac := acN_le c ws i k
                  have HST := Lib.hid (acN_step c ws i k)
                  have HAB : Hid (ahB c ws i k = (decide (restI c ws i < restI c ws k) || (decide (restI c ws k = restI c ws i) && decide (k < i)))) := Lib.hid rfl
                  have HL : Hid (ws.length ≤ 50) := Lib.hid (by omega)
                  obtain ⟨A, hA⟩ : ∃ A, acN c ws i k = A := ⟨_, rfl⟩
                  obtain ⟨ra, hra⟩ : ∃ ra, restI c ws i = ra := ⟨_, rfl⟩
                  obtain ⟨rb, hrb⟩ : ∃ rb, restI c ws k = rb := ⟨_, rfl⟩
                  rw [hA] at hac HST
                  rw [hra] at hri HAB
                  rw [hrb] at hrk HAB
                  rw [hA]
                  clear hA hra hrb hq
                  have hsb := spA_bnd H3.out
                  generalize ws.sum = s at hri hrk s0 hsb ⊢
                  obtain ⟨m1, hm1⟩ : ∃ m, c * p = m := ⟨_, rfl⟩
                  obtain ⟨m2, hm2⟩ : ∃ m, c * q = m := ⟨_, rfl⟩
                  have hw1 : IntKind.i64.wrap (c * p) = m1 := by rw [hm1, IntKind.wrap_i64]; omega
                  have hw2 : IntKind.i64.wrap (c * q) = m2 := by rw [hm2, IntKind.wrap_i64]; omega
                  rw [hm1] at p1 p2 hri
                  rw [hm2] at q1 q2 hrk
                  have ht1 : m1.tmod s = ra := by rw [Int.tmod_eq_emod_of_nonneg p1, hri]
                  have ht2 : m2.tmod s = rb := by rw [Int.tmod_eq_emod_of_nonneg q1, hrk]
                  have hx1 : IntKind.i64.wrap ra = ra := by have u1 := Int.emod_nonneg m1 (show s ≠ 0 by omega); have u2 := Int.emod_lt_of_pos m1 s0; rw [IntKind.wrap_i64]; omega
                  have hx2 : IntKind.i64.wrap rb = rb := by have u1 := Int.emod_nonneg m2 (show s ≠ 0 by omega); have u2 := Int.emod_lt_of_pos m2 s0; rw [IntKind.wrap_i64]; omega
                  have hsn : ¬ s = 0 := by omega
                  have hwA : IntKind.i64.wrap ((A : Int) + 1) = (A : Int) + 1 := by have := HL.out; rw [IntKind.wrap_i64]; omega
                  have hwB : IntKind.i64.wrap (A : Int) = (A : Int) := by have := HL.out; rw [IntKind.wrap_i64]; omega
                  have HK2 := Lib.hid hltk
                  have hltI : (k : Int) < (ws.length : Int) := by omega
                  clear hm1 hm2 p1 p2 q1 q2 hri hrk s0 hac hsb
                  go_upto_region 22 with fail
                  refine wp_region_held_drew (S := (fun _ : World => True)) (by kernel_rfl) ?_ (fun hHeld => ?_)
                  · exact trivial
                  refine wpAnyH_take (i := 0) (oi := { dst := some 66, op := Op.move (Operand.tmp 0), type := 3, pos := _, after := #[], guard := none }) (v := ?_) rfl (by kernel_rfl) (by kernel_rfl) (by kernel_rfl) (fun _ _ _ h => h) (Or.inl ⟨by rfl, ?_⟩) (by assumption) ?_
                  rotate_left
                  · (intro w hSw; clear hSw; (go_simp <;> with_reducible rfl))
                  try simp only [Act.put, List.setIfInBounds_toArray, List.set_cons_zero, List.set_cons_succ]
                  refine wpAnyH_take (i := 1) (oi := { dst := some 67, op := Op.move (Operand.tmp 16), type := 3, pos := _, after := #[], guard := none }) (v := ?_) rfl (by kernel_rfl) (by kernel_rfl) (by kernel_rfl) (fun _ _ _ h => h) (Or.inl ⟨by rfl, ?_⟩) (by assumption) ?_
                  rotate_left
                  · (intro w hSw; clear hSw; (go_simp <;> with_reducible rfl))
                  try simp only [Act.put, List.setIfInBounds_toArray, List.set_cons_zero, List.set_cons_succ]
                  refine wpAnyH_take (i := 2) (oi := { dst := some 68, op := Op.binOp BinOp.mul 3 (Operand.tmp 66) (Operand.tmp 67) 3, type := 3, pos := _, after := #[{ on := 0, ground := Ground.data }, { on := 1, ground := Ground.data }], guard := none }) (v := ?_) rfl (by kernel_rfl) (by kernel_rfl) (by kernel_rfl) (fun _ _ _ h => h) (Or.inl ⟨by rfl, ?_⟩) (by assumption) ?_
                  rotate_left
                  · (intro w hSw; clear hSw; (go_simp <;> with_reducible rfl))
                  try simp only [Act.put, List.setIfInBounds_toArray, List.set_cons_zero, List.set_cons_succ]
                  refine wpAnyH_take (i := 3) (oi := { dst := some 69, op := Op.move (Operand.tmp 5), type := 3, pos := _, after := #[], guard := none }) (v := ?_) rfl (by kernel_rfl) (by kernel_rfl) (by kernel_rfl) (fun _ _ _ h => h) (Or.inl ⟨by rfl, ?_⟩) (by assumption) ?_
                  rotate_left
                  · (intro w hSw; clear hSw; (go_simp <;> with_reducible rfl))
                  try simp only [Act.put, List.setIfInBounds_toArray, List.set_cons_zero, List.set_cons_succ]
                  refine wpAnyH_take (i := 4) (oi := { dst := some 70, op := Op.binOp BinOp.rem 3 (Operand.tmp 68) (Operand.tmp 69) 3, type := 3, pos := _, after := #[{ on := 2, ground := Ground.data }, { on := 3, ground := Ground.data }], guard := none }) (v := ?_) rfl (by kernel_rfl) (by kernel_rfl) (by kernel_rfl) (fun _ _ _ h => h) (Or.inl ⟨by rfl, ?_⟩) (by assumption) ?_
                  rotate_left
                  · (intro w hSw; clear hSw; (go_simp <;> with_reducible rfl))
                  try simp only [Act.put, List.setIfInBounds_toArray, List.set_cons_zero, List.set_cons_succ]
                  refine wpAnyH_take (i := 5) (oi := { dst := some 71, op := Op.move (Operand.tmp 0), type := 3, pos := _, after := #[{ on := 10, ground := Ground.gcOnly Departure.lateStores }], guard := none }) (v := ?_) rfl (by kernel_rfl) (by kernel_rfl) (by kernel_rfl) (fun _ _ _ h => h) (Or.inl ⟨by rfl, ?_⟩) (by assumption) ?_
                  rotate_left
                  · (intro w hSw; clear hSw; (go_simp <;> with_reducible rfl))
                  try simp only [Act.put, List.setIfInBounds_toArray, List.set_cons_zero, List.set_cons_succ]
                  refine wpAnyH_take (i := 6) (oi := { dst := some 72, op := Op.move (Operand.tmp 13), type := 3, pos := _, after := #[{ on := 10, ground := Ground.gcOnly Departure.lateStores }], guard := none }) (v := ?_) rfl (by kernel_rfl) (by kernel_rfl) (by kernel_rfl) (fun _ _ _ h => h) (Or.inl ⟨by rfl, ?_⟩) (by assumption) ?_
                  rotate_left
                  · (intro w hSw; clear hSw; (go_simp <;> with_reducible rfl))
                  try simp only [Act.put, List.setIfInBounds_toArray, List.set_cons_zero, List.set_cons_succ]
                  refine wpAnyH_take (i := 7) (oi := { dst := some 73, op := Op.binOp BinOp.mul 3 (Operand.tmp 71) (Operand.tmp 72) 3, type := 3, pos := _, after := #[{ on := 5, ground := Ground.data }, { on := 6, ground := Ground.data }, { on := 10, ground := Ground.gcOnly Departure.lateStores }], guard := none }) (v := ?_) rfl (by kernel_rfl) (by kernel_rfl) (by kernel_rfl) (fun _ _ _ h => h) (Or.inl ⟨by rfl, ?_⟩) (by assumption) ?_
                  rotate_left
                  · (intro w hSw; clear hSw; (go_simp <;> with_reducible rfl))
                  try simp only [Act.put, List.setIfInBounds_toArray, List.set_cons_zero, List.set_cons_succ]
                  refine wpAnyH_take (i := 8) (oi := { dst := some 74, op := Op.move (Operand.tmp 5), type := 3, pos := _, after := #[{ on := 10, ground := Ground.gcOnly Departure.lateStores }], guard := none }) (v := ?_) rfl (by kernel_rfl) (by kernel_rfl) (by kernel_rfl) (fun _ _ _ h => h) (Or.inl ⟨by rfl, ?_⟩) (by assumption) ?_
                  rotate_left
                  · (intro w hSw; clear hSw; (go_simp <;> with_reducible rfl))
                  try simp only [Act.put, List.setIfInBounds_toArray, List.set_cons_zero, List.set_cons_succ]
                  refine wpAnyH_take (i := 9) (oi := { dst := some 75, op := Op.binOp BinOp.rem 3 (Operand.tmp 73) (Operand.tmp 74) 3, type := 3, pos := _, after := #[{ on := 7, ground := Ground.data }, { on := 8, ground := Ground.data }, { on := 10, ground := Ground.gcOnly Departure.lateStores }], guard := none }) (v := ?_) rfl (by kernel_rfl) (by kernel_rfl) (by kernel_rfl) (fun _ _ _ h => h) (Or.inl ⟨by rfl, ?_⟩) (by assumption) ?_
                  rotate_left
                  · (intro w hSw; clear hSw; (go_simp <;> with_reducible rfl))
                  try simp only [Act.put, List.setIfInBounds_toArray, List.set_cons_zero, List.set_cons_succ]
                  refine wpAnyH_take (i := 10) (oi := { dst := some 17, op := Op.assign (Operand.tmp 70), type := 3, pos := _, after := #[{ on := 4, ground := Ground.data }, { on := 0, ground := Ground.phase }, { on := 1, ground := Ground.phase }, { on := 2, ground := Ground.phase }, { on := 3, ground := Ground.phase }, { on := 4, ground := Ground.phase }, { on := 5, ground := Ground.textOnly Departure.lateStores }, { on := 6, ground := Ground.textOnly Departure.lateStores }, { on := 7, ground := Ground.textOnly Departure.lateStores }, { on := 8, ground := Ground.textOnly Departure.lateStores }, { on := 9, ground := Ground.textOnly Departure.lateStores }], guard := none }) (v := ?_) rfl (by kernel_rfl) (by kernel_rfl) (by kernel_rfl) (fun _ _ _ h => h) (Or.inl ⟨by rfl, ?_⟩) (by assumption) ?_
                  rotate_left
                  · (intro w hSw; clear hSw; (go_simp <;> with_reducible rfl))
                  try simp only [Act.put, List.setIfInBounds_toArray, List.set_cons_zero, List.set_cons_succ]
                  refine wpAnyH_take (i := 11) (oi := { dst := some 18, op := Op.assign (Operand.tmp 75), type := 3, pos := _, after := #[{ on := 9, ground := Ground.data }, { on := 10, ground := Ground.chain }, { on := 0, ground := Ground.phase }, { on := 1, ground := Ground.phase }, { on := 2, ground := Ground.phase }, { on := 3, ground := Ground.phase }, { on := 4, ground := Ground.phase }, { on := 5, ground := Ground.phase }, { on := 6, ground := Ground.phase }, { on := 7, ground := Ground.phase }, { on := 8, ground := Ground.phase }, { on := 9, ground := Ground.phase }, { on := 10, ground := Ground.phase }], guard := none }) (v := ?_) rfl (by kernel_rfl) (by kernel_rfl) (by kernel_rfl) (fun _ _ _ h => h) (Or.inl ⟨by rfl, ?_⟩) (by assumption) ?_
                  rotate_left
                  · (intro w hSw; clear hSw; (go_simp <;> with_reducible rfl))
                  try simp only [Act.put, List.setIfInBounds_toArray, List.set_cons_zero, List.set_cons_succ]
                  refine wpAnyH_done (by kernel_rfl) ?_ _
                  generalize hwd : wr.drew = wd at hHeld ⊢
                  have hG5 : G w3 wd none := by rw [← hwd]; exact hG4.drew
                  clear hwd hHeld hG4 hck hw1 hw2 ht1 ht2 hx1 hx2
                  by_cases e1 : ra < rb
                  · have HN : Hid (((acN c ws i (k + 1) : Nat) : Int) = (A : Int) + 1) := Lib.hid (by rw [HST.out, HAB.out]; simp [e1])
                    go_wp2_with fail
                    refine (flag_c _ _).mono ?_
                    rintro e w' ⟨rfl, rfl⟩
                    go_wp2_with fail
                    go_roundw
                    case rel => exact ⟨k + 1, (by have := HK2.out; omega), by go_num, (by rw [HN.out]), hG5⟩
                    case measure => have := HK2.out; simp [intOf]; omega
                  · by_cases e2 : rb = ra
                    · by_cases e3 : k < i
                      · have e4 : (k : Int) < (i : Int) := by omega
                        have HN : Hid (((acN c ws i (k + 1) : Nat) : Int) = (A : Int) + 1) := Lib.hid (by rw [HST.out, HAB.out]; simp [e1, e2, e3])
                        go_wp2_with fail
                        refine (flag_c _ _).mono ?_
                        rintro e w' ⟨rfl, rfl⟩
                        go_wp2_with fail
                        go_roundw
                        case rel => exact ⟨k + 1, (by have := HK2.out; omega), by go_num, (by rw [HN.out]), hG5⟩
                        case measure => have := HK2.out; simp [intOf]; omega
                      · have e4 : ¬ (k : Int) < (i : Int) := by omega
                        have HN : Hid (((acN c ws i (k + 1) : Nat) : Int) = (A : Int)) := Lib.hid (by rw [HST.out, HAB.out]; simp [e1, e2, e3])
                        go_wp2_with fail
                        refine (flag_c _ _).mono ?_
                        rintro e w' ⟨rfl, rfl⟩
                        go_wp2_with fail
                        go_roundw
                        case rel => exact ⟨k + 1, (by have := HK2.out; omega), by go_num, (by rw [HN.out]), hG5⟩
                        case measure => have := HK2.out; simp [intOf]; omega
                    · have HN : Hid (((acN c ws i (k + 1) : Nat) : Int) = (A : Int)) := Lib.hid (by rw [HST.out, HAB.out]; simp [e1, e2])
                      go_wp2_with fail
                      refine (flag_c _ _).mono ?_
                      rintro e w' ⟨rfl, rfl⟩
                      go_wp2_with fail
                      go_roundw
                      case rel => exact ⟨k + 1, (by have := HK2.out; omega), by go_num, (by rw [HN.out]), hG5⟩
                      case measure => have := HK2.out; simp [intOf]; omega
                · obtain rfl : k = ws.length := by omega
                  have HAN : Hid (acN c ws i ws.length = ahN c ws i) := Lib.hid rfl
                  have hown := HOWN.out
                  obtain ⟨g, cap', cur, e, -⟩ := OwnX.form0 hown (by rw [mK_len]; have := HI.out; omega)
                  rw [mK_len] at e
                  subst e
                  have hob := OwnX.low hown g rfl
                  have hown5 := OwnX.drew (OwnX.quiet hown hG4)
                  have hG5 := (hG.trans hG4).drew
                  have hmi := mK_at c ws HI.out
                  have hfb := fl_bnd HE.out i
                  have HS1 := Lib.hid (mK_step c ws i)
                  have hiI : (i : Int) < (ws.length : Int) := by have := HI.out; omega
                  obtain ⟨fl, hfl⟩ : ∃ fl, flI c ws i = fl := ⟨_, rfl⟩
                  obtain ⟨A, hA⟩ : ∃ A, acN c ws i ws.length = A := ⟨_, rfl⟩
                  have HONE : Hid (oneI c ws i = if (A : Int) < L then 1 else 0) := Lib.hid (by unfold oneI; rw [← HAN.out, hA, HLE.out])
                  rw [hfl] at hmi hfb HS1
                  rw [hA]
                  have hwA : IntKind.i64.wrap (fl + 1) = fl + 1 := by rw [IntKind.wrap_i64]; omega
                  have hwB : IntKind.i64.wrap fl = fl := by rw [IntKind.wrap_i64]; omega
                  clear hfl hA hfb
                  go_upto_region 25 with fail
                  obtain ⟨w5, hw5⟩ : ∃ w5, wr.drew = w5 := ⟨_, rfl⟩
                  rw [hw5] at hown5 hG5
                  have z0 : w5.cell? ⟨g, i, none⟩ = some (.int .i64 fl) := by have := RdR.cell inC_sz (Rd.of_owns hown5) (G.refl _ none) hmi 0 (.int .i64 fl) rfl; simpa using this
                  have z3 : w5.frozen? ⟨g, i, none⟩ = false := soi_free hown5 (mK_len _ _ _) _
                  have hownA := fun y => soi_set hown5 (mK_len _ _ _) hmi y
                  have hGA := fun y => hG5.other (grownBy_setCell_row w5 ⟨g, i, none⟩ y) (fun r e => .inl (by cases e; exact hob))
                  by_cases hq : (A : Int) < L
                  · have hownN := hownA (fl + 1)
                    have hGN := hGA (.int .i64 (fl + 1))
                    rw [show (mK c ws i).set i (fl + 1) = mK c ws (i + 1) by rw [← HS1.out, HONE.out, if_pos hq]] at hownN
                    clear hownA hGA hown5 hG5 hmi hown hG hG4
                    refine wp_region_held_drew (S := (fun _ : World => True)) (by kernel_rfl) ?_ (fun hHeld => ?_)
                    · exact trivial
                    rw [hw5]
                    clear hw5
                    refine wpAnyH_take (i := 0) (oi := { dst := some 93, op := Op.move (Operand.tmp 8), type := 22, pos := _, after := #[], guard := none }) (v := ?_) rfl (by kernel_rfl) (by kernel_rfl) (by kernel_rfl) (fun _ _ _ h => h) (Or.inl ⟨by rfl, ?_⟩) (by assumption) ?_
                    rotate_left
                    · (intro w hSw; clear hSw; (go_simp <;> with_reducible rfl))
                    try simp only [Act.put, List.setIfInBounds_toArray, List.set_cons_zero, List.set_cons_succ]
                    refine wpAnyH_take (i := 1) (oi := { dst := some 94, op := Op.move (Operand.tmp 12), type := 3, pos := _, after := #[], guard := none }) (v := ?_) rfl (by kernel_rfl) (by kernel_rfl) (by kernel_rfl) (fun _ _ _ h => h) (Or.inl ⟨by rfl, ?_⟩) (by assumption) ?_
                    rotate_left
                    · (intro w hSw; clear hSw; (go_simp <;> with_reducible rfl))
                    try simp only [Act.put, List.setIfInBounds_toArray, List.set_cons_zero, List.set_cons_succ]
                    refine wpAnyH_take (i := 2) (oi := { dst := some 95, op := Op.indexAddr 22 (Operand.tmp 93) (Operand.tmp 94), type := 0, pos := _, after := #[{ on := 0, ground := Ground.data }, { on := 1, ground := Ground.data }], guard := none }) (v := ?_) rfl (by kernel_rfl) (by kernel_rfl) (by kernel_rfl) (fun _ _ _ h => h) (Or.inl ⟨by rfl, ?_⟩) (by assumption) ?_
                    rotate_left
                    · (intro w hSw; clear hSw; (go_simp <;> with_reducible rfl))
                    try simp only [Act.put, List.setIfInBounds_toArray, List.set_cons_zero, List.set_cons_succ]
                    refine wpAnyH_take (i := 4) (oi := { dst := some 97, op := Op.move (Operand.tmp 14), type := 3, pos := _, after := #[], guard := none }) (v := ?_) rfl (by kernel_rfl) (by kernel_rfl) (by kernel_rfl) (fun _ _ _ h => h) (Or.inl ⟨by rfl, ?_⟩) (by assumption) ?_
                    rotate_left
                    · (intro w hSw; clear hSw; (go_simp <;> with_reducible rfl))
                    try simp only [Act.put, List.setIfInBounds_toArray, List.set_cons_zero, List.set_cons_succ]
                    refine wpAnyH_take (i := 5) (oi := { dst := some 98, op := Op.move (Operand.tmp 9), type := 3, pos := _, after := #[], guard := none }) (v := ?_) rfl (by kernel_rfl) (by kernel_rfl) (by kernel_rfl) (fun _ _ _ h => h) (Or.inl ⟨by rfl, ?_⟩) (by assumption) ?_
                    rotate_left
                    · (intro w hSw; clear hSw; (go_simp <;> with_reducible rfl))
                    try simp only [Act.put, List.setIfInBounds_toArray, List.set_cons_zero, List.set_cons_succ]
                    refine wpAnyH_take (i := 6) (oi := { dst := some 99, op := Op.binOp BinOp.lss 3 (Operand.tmp 97) (Operand.tmp 98) 3, type := 4, pos := _, after := #[{ on := 4, ground := Ground.data }, { on := 5, ground := Ground.data }], guard := none }) (v := ?_) rfl (by kernel_rfl) (by kernel_rfl) (by kernel_rfl) (fun _ _ _ h => h) (Or.inl ⟨by rfl, ?_⟩) (by assumption) ?_
                    rotate_left
                    · (intro w hSw; clear hSw; (go_simp <;> with_reducible rfl))
                    try simp only [Act.put, List.setIfInBounds_toArray, List.set_cons_zero, List.set_cons_succ]
                    refine wpAnyH_ready (rs := [3, 7]) (by kernel_rfl) (by simp) ?_
                    refine (AllReadyH.cons (o := { dst := some 96, op := Op.load 3 (Operand.tmp 95), type := 3, pos := _, after := #[{ on := 2, ground := Ground.data }], guard := none }) rfl (fun K hK => ?_) (AllReadyH.cons (o := { dst := some 100, op := Op.call { callee := Callee.value (Operand.func 46), args := #[Operand.tmp 99], argTypes := #[4] }, type := 3, pos := _, after := #[{ on := 6, ground := Ground.data }], guard := none }) rfl (fun K hK => ?_) AllReadyH.nil))
                    · go_simp
                      refine hK.out _ _ ?_ (fun hHeld => ?_)
                      · exact trivial
                      clear hK K
                      try simp only [Act.put, List.setIfInBounds_toArray, List.set_cons_zero, List.set_cons_succ]
                      refine wpAnyH_ready (rs := [7]) (by kernel_rfl) (by simp) ?_
                      refine (AllReadyH.cons (o := { dst := some 100, op := Op.call { callee := Callee.value (Operand.func 46), args := #[Operand.tmp 99], argTypes := #[4] }, type := 3, pos := _, after := #[{ on := 6, ground := Ground.data }], guard := none }) rfl (fun K hK => ?_) AllReadyH.nil)
                      go_simp
                      refine (flag_c _ _).mono ?_
                      rintro e w' ⟨rfl, rfl⟩
                      refine hK.out _ _ ?_ (fun hHeld => ?_)
                      · exact trivial
                      clear hK K
                      try simp only [Act.put, List.setIfInBounds_toArray, List.set_cons_zero, List.set_cons_succ]
                      refine wpAnyH_take (i := 8) (oi := { dst := some 101, op := Op.binOp BinOp.add 3 (Operand.tmp 96) (Operand.tmp 100) 3, type := 3, pos := _, after := #[{ on := 3, ground := Ground.data }, { on := 7, ground := Ground.data }], guard := none }) (v := ?_) rfl (by kernel_rfl) (by kernel_rfl) (by kernel_rfl) (fun _ _ _ h => h) (Or.inl ⟨by rfl, ?_⟩) (by assumption) ?_
                      rotate_left
                      · (intro w hSw; clear hSw; (go_simp <;> with_reducible rfl))
                      try simp only [Act.put, List.setIfInBounds_toArray, List.set_cons_zero, List.set_cons_succ]
                      refine wpAnyH_take (i := 9) (oi := { dst := some 102, op := Op.indexAddr 22 (Operand.tmp 93) (Operand.tmp 94), type := 0, pos := _, after := #[{ on := 0, ground := Ground.data }, { on := 1, ground := Ground.data }, { on := 0, ground := Ground.phase }, { on := 1, ground := Ground.phase }, { on := 2, ground := Ground.phase }, { on := 3, ground := Ground.phase }, { on := 4, ground := Ground.phase }, { on := 5, ground := Ground.phase }, { on := 6, ground := Ground.phase }, { on := 7, ground := Ground.phase }, { on := 8, ground := Ground.phase }], guard := none }) (v := ?_) rfl (by kernel_rfl) (by kernel_rfl) (by kernel_rfl) (fun _ _ _ h => h) (Or.inl ⟨by rfl, ?_⟩) (by assumption) ?_
                      rotate_left
                      · (intro w hSw; clear hSw; (go_simp <;> with_reducible rfl))
                      try simp only [Act.put, List.setIfInBounds_toArray, List.set_cons_zero, List.set_cons_succ]
                      refine wpAnyH_ready (rs := [10]) (by kernel_rfl) (by simp) ?_
                      refine (AllReadyH.cons (o := { dst := none, op := Op.store 3 (Operand.tmp 102) (Operand.tmp 101), type := 0, pos := _, after := #[{ on := 9, ground := Ground.data }, { on := 8, ground := Ground.data }, { on := 7, ground := Ground.chain }, { on := 0, ground := Ground.phase }, { on := 1, ground := Ground.phase }, { on := 2, ground := Ground.phase }, { on := 3, ground := Ground.phase }, { on := 4, ground := Ground.phase }, { on := 5, ground := Ground.phase }, { on := 6, ground := Ground.phase }, { on := 7, ground := Ground.phase }, { on := 8, ground := Ground.phase }], guard := none }) rfl (fun K hK => ?_) AllReadyH.nil)
                      go_simp
                      refine hK.out _ _ ?_ (fun hHeld => ?_)
                      · exact trivial
                      clear hK K
                      try simp only [Act.put, List.setIfInBounds_toArray, List.set_cons_zero, List.set_cons_succ]
                      refine wpAnyH_done (by kernel_rfl) ?_ _
                      clear hHeld
                      go_wp2_with fail
                      go_roundw
                      case rel => exact ⟨i + 1, (by have := HI.out; omega), by go_num, hownN, hGN⟩
                      case measure => have := HI.out; simp [intOf]; omega
                    · go_simp
                      refine (flag_c _ _).mono ?_
                      rintro e w' ⟨rfl, rfl⟩
                      refine hK.out _ _ ?_ (fun hHeld => ?_)
                      · exact trivial
                      clear hK K
                      try simp only [Act.put, List.setIfInBounds_toArray, List.set_cons_zero, List.set_cons_succ]
                      refine wpAnyH_ready (rs := [3]) (by kernel_rfl) (by simp) ?_
                      refine (AllReadyH.cons (o := { dst := some 96, op := Op.load 3 (Operand.tmp 95), type := 3, pos := _, after := #[{ on := 2, ground := Ground.data }], guard := none }) rfl (fun K hK => ?_) AllReadyH.nil)
                      go_simp
                      refine hK.out _ _ ?_ (fun hHeld => ?_)
                      · exact trivial
                      clear hK K
                      try simp only [Act.put, List.setIfInBounds_toArray, List.set_cons_zero, List.set_cons_succ]
                      refine wpAnyH_take (i := 8) (oi := { dst := some 101, op := Op.binOp BinOp.add 3 (Operand.tmp 96) (Operand.tmp 100) 3, type := 3, pos := _, after := #[{ on := 3, ground := Ground.data }, { on := 7, ground := Ground.data }], guard := none }) (v := ?_) rfl (by kernel_rfl) (by kernel_rfl) (by kernel_rfl) (fun _ _ _ h => h) (Or.inl ⟨by rfl, ?_⟩) (by assumption) ?_
                      rotate_left
                      · (intro w hSw; clear hSw; (go_simp <;> with_reducible rfl))
                      try simp only [Act.put, List.setIfInBounds_toArray, List.set_cons_zero, List.set_cons_succ]
                      refine wpAnyH_take (i := 9) (oi := { dst := some 102, op := Op.indexAddr 22 (Operand.tmp 93) (Operand.tmp 94), type := 0, pos := _, after := #[{ on := 0, ground := Ground.data }, { on := 1, ground := Ground.data }, { on := 0, ground := Ground.phase }, { on := 1, ground := Ground.phase }, { on := 2, ground := Ground.phase }, { on := 3, ground := Ground.phase }, { on := 4, ground := Ground.phase }, { on := 5, ground := Ground.phase }, { on := 6, ground := Ground.phase }, { on := 7, ground := Ground.phase }, { on := 8, ground := Ground.phase }], guard := none }) (v := ?_) rfl (by kernel_rfl) (by kernel_rfl) (by kernel_rfl) (fun _ _ _ h => h) (Or.inl ⟨by rfl, ?_⟩) (by assumption) ?_
                      rotate_left
                      · (intro w hSw; clear hSw; (go_simp <;> with_reducible rfl))
                      try simp only [Act.put, List.setIfInBounds_toArray, List.set_cons_zero, List.set_cons_succ]
                      refine wpAnyH_ready (rs := [10]) (by kernel_rfl) (by simp) ?_
                      refine (AllReadyH.cons (o := { dst := none, op := Op.store 3 (Operand.tmp 102) (Operand.tmp 101), type := 0, pos := _, after := #[{ on := 9, ground := Ground.data }, { on := 8, ground := Ground.data }, { on := 7, ground := Ground.chain }, { on := 0, ground := Ground.phase }, { on := 1, ground := Ground.phase }, { on := 2, ground := Ground.phase }, { on := 3, ground := Ground.phase }, { on := 4, ground := Ground.phase }, { on := 5, ground := Ground.phase }, { on := 6, ground := Ground.phase }, { on := 7, ground := Ground.phase }, { on := 8, ground := Ground.phase }], guard := none }) rfl (fun K hK => ?_) AllReadyH.nil)
                      go_simp
                      refine hK.out _ _ ?_ (fun hHeld => ?_)
                      · exact trivial
                      clear hK K
                      try simp only [Act.put, List.setIfInBounds_toArray, List.set_cons_zero, List.set_cons_succ]
                      refine wpAnyH_done (by kernel_rfl) ?_ _
                      clear hHeld
                      go_wp2_with fail
                      go_roundw
                      case rel => exact ⟨i + 1, (by have := HI.out; omega), by go_num, hownN, hGN⟩
                      case measure => have := HI.out; simp [intOf]; omega
                  · have hownN := hownA fl
                    have hGN := hGA (.int .i64 fl)
                    rw [show (mK c ws i).set i fl = mK c ws (i + 1) by rw [← HS1.out, HONE.out, if_neg hq, Int.add_zero]] at hownN
                    clear hownA hGA hown5 hG5 hmi hown hG hG4
                    refine wp_region_held_drew (S := (fun _ : World => True)) (by kernel_rfl) ?_ (fun hHeld => ?_)
                    · exact trivial
                    rw [hw5]
                    clear hw5
                    refine wpAnyH_take (i := 0) (oi := { dst := some 93, op := Op.move (Operand.tmp 8), type := 22, pos := _, after := #[], guard := none }) (v := ?_) rfl (by kernel_rfl) (by kernel_rfl) (by kernel_rfl) (fun _ _ _ h => h) (Or.inl ⟨by rfl, ?_⟩) (by assumption) ?_
                    rotate_left
                    · (intro w hSw; clear hSw; (go_simp <;> with_reducible rfl))
                    try simp only [Act.put, List.setIfInBounds_toArray, List.set_cons_zero, List.set_cons_succ]
                    refine wpAnyH_take (i := 1) (oi := { dst := some 94, op := Op.move (Operand.tmp 12), type := 3, pos := _, after := #[], guard := none }) (v := ?_) rfl (by kernel_rfl) (by kernel_rfl) (by kernel_rfl) (fun _ _ _ h => h) (Or.inl ⟨by rfl, ?_⟩) (by assumption) ?_
                    rotate_left
                    · (intro w hSw; clear hSw; (go_simp <;> with_reducible rfl))
                    try simp only [Act.put, List.setIfInBounds_toArray, List.set_cons_zero, List.set_cons_succ]
                    refine wpAnyH_take (i := 2) (oi := { dst := some 95, op := Op.indexAddr 22 (Operand.tmp 93) (Operand.tmp 94), type := 0, pos := _, after := #[{ on := 0, ground := Ground.data }, { on := 1, ground := Ground.data }], guard := none }) (v := ?_) rfl (by kernel_rfl) (by kernel_rfl) (by kernel_rfl) (fun _ _ _ h => h) (Or.inl ⟨by rfl, ?_⟩) (by assumption) ?_
                    rotate_left
                    · (intro w hSw; clear hSw; (go_simp <;> with_reducible rfl))
                    try simp only [Act.put, List.setIfInBounds_toArray, List.set_cons_zero, List.set_cons_succ]
                    refine wpAnyH_take (i := 4) (oi := { dst := some 97, op := Op.move (Operand.tmp 14), type := 3, pos := _, after := #[], guard := none }) (v := ?_) rfl (by kernel_rfl) (by kernel_rfl) (by kernel_rfl) (fun _ _ _ h => h) (Or.inl ⟨by rfl, ?_⟩) (by assumption) ?_
                    rotate_left
                    · (intro w hSw; clear hSw; (go_simp <;> with_reducible rfl))
                    try simp only [Act.put, List.setIfInBounds_toArray, List.set_cons_zero, List.set_cons_succ]
                    refine wpAnyH_take (i := 5) (oi := { dst := some 98, op := Op.move (Operand.tmp 9), type := 3, pos := _, after := #[], guard := none }) (v := ?_) rfl (by kernel_rfl) (by kernel_rfl) (by kernel_rfl) (fun _ _ _ h => h) (Or.inl ⟨by rfl, ?_⟩) (by assumption) ?_
                    rotate_left
                    · (intro w hSw; clear hSw; (go_simp <;> with_reducible rfl))
                    try simp only [Act.put, List.setIfInBounds_toArray, List.set_cons_zero, List.set_cons_succ]
                    refine wpAnyH_take (i := 6) (oi := { dst := some 99, op := Op.binOp BinOp.lss 3 (Operand.tmp 97) (Operand.tmp 98) 3, type := 4, pos := _, after := #[{ on := 4, ground := Ground.data }, { on := 5, ground := Ground.data }], guard := none }) (v := ?_) rfl (by kernel_rfl) (by kernel_rfl) (by kernel_rfl) (fun _ _ _ h => h) (Or.inl ⟨by rfl, ?_⟩) (by assumption) ?_
                    rotate_left
                    · (intro w hSw; clear hSw; (go_simp <;> with_reducible rfl))
                    try simp only [Act.put, List.setIfInBounds_toArray, List.set_cons_zero, List.set_cons_succ]
                    refine wpAnyH_ready (rs := [3, 7]) (by kernel_rfl) (by simp) ?_
                    refine (AllReadyH.cons (o := { dst := some 96, op := Op.load 3 (Operand.tmp 95), type := 3, pos := _, after := #[{ on := 2, ground := Ground.data }], guard := none }) rfl (fun K hK => ?_) (AllReadyH.cons (o := { dst := some 100, op := Op.call { callee := Callee.value (Operand.func 46), args := #[Operand.tmp 99], argTypes := #[4] }, type := 3, pos := _, after := #[{ on := 6, ground := Ground.data }], guard := none }) rfl (fun K hK => ?_) AllReadyH.nil))
                    · go_simp
                      refine hK.out _ _ ?_ (fun hHeld => ?_)
                      · exact trivial
                      clear hK K
                      try simp only [Act.put, List.setIfInBounds_toArray, List.set_cons_zero, List.set_cons_succ]
                      refine wpAnyH_ready (rs := [7]) (by kernel_rfl) (by simp) ?_
                      refine (AllReadyH.cons (o := { dst := some 100, op := Op.call { callee := Callee.value (Operand.func 46), args := #[Operand.tmp 99], argTypes := #[4] }, type := 3, pos := _, after := #[{ on := 6, ground := Ground.data }], guard := none }) rfl (fun K hK => ?_) AllReadyH.nil)
                      go_simp
                      refine (flag_c _ _).mono ?_
                      rintro e w' ⟨rfl, rfl⟩
                      refine hK.out _ _ ?_ (fun hHeld => ?_)
                      · exact trivial
                      clear hK K
                      try simp only [Act.put, List.setIfInBounds_toArray, List.set_cons_zero, List.set_cons_succ]
                      refine wpAnyH_take (i := 8) (oi := { dst := some 101, op := Op.binOp BinOp.add 3 (Operand.tmp 96) (Operand.tmp 100) 3, type := 3, pos := _, after := #[{ on := 3, ground := Ground.data }, { on := 7, ground := Ground.data }], guard := none }) (v := ?_) rfl (by kernel_rfl) (by kernel_rfl) (by kernel_rfl) (fun _ _ _ h => h) (Or.inl ⟨by rfl, ?_⟩) (by assumption) ?_
                      rotate_left
                      · (intro w hSw; clear hSw; (go_simp <;> with_reducible rfl))
                      try simp only [Act.put, List.setIfInBounds_toArray, List.set_cons_zero, List.set_cons_succ]
                      refine wpAnyH_take (i := 9) (oi := { dst := some 102, op := Op.indexAddr 22 (Operand.tmp 93) (Operand.tmp 94), type := 0, pos := _, after := #[{ on := 0, ground := Ground.data }, { on := 1, ground := Ground.data }, { on := 0, ground := Ground.phase }, { on := 1, ground := Ground.phase }, { on := 2, ground := Ground.phase }, { on := 3, ground := Ground.phase }, { on := 4, ground := Ground.phase }, { on := 5, ground := Ground.phase }, { on := 6, ground := Ground.phase }, { on := 7, ground := Ground.phase }, { on := 8, ground := Ground.phase }], guard := none }) (v := ?_) rfl (by kernel_rfl) (by kernel_rfl) (by kernel_rfl) (fun _ _ _ h => h) (Or.inl ⟨by rfl, ?_⟩) (by assumption) ?_
                      rotate_left
                      · (intro w hSw; clear hSw; (go_simp <;> with_reducible rfl))
                      try simp only [Act.put, List.setIfInBounds_toArray, List.set_cons_zero, List.set_cons_succ]
                      refine wpAnyH_ready (rs := [10]) (by kernel_rfl) (by simp) ?_
                      refine (AllReadyH.cons (o := { dst := none, op := Op.store 3 (Operand.tmp 102) (Operand.tmp 101), type := 0, pos := _, after := #[{ on := 9, ground := Ground.data }, { on := 8, ground := Ground.data }, { on := 7, ground := Ground.chain }, { on := 0, ground := Ground.phase }, { on := 1, ground := Ground.phase }, { on := 2, ground := Ground.phase }, { on := 3, ground := Ground.phase }, { on := 4, ground := Ground.phase }, { on := 5, ground := Ground.phase }, { on := 6, ground := Ground.phase }, { on := 7, ground := Ground.phase }, { on := 8, ground := Ground.phase }], guard := none }) rfl (fun K hK => ?_) AllReadyH.nil)
                      go_simp
                      refine hK.out _ _ ?_ (fun hHeld => ?_)
                      · exact trivial
                      clear hK K
                      try simp only [Act.put, List.setIfInBounds_toArray, List.set_cons_zero, List.set_cons_succ]
                      refine wpAnyH_done (by kernel_rfl) ?_ _
                      clear hHeld
                      go_wp2_with fail
                      go_roundw
                      case rel => exact ⟨i + 1, (by have := HI.out; omega), by go_num, hownN, hGN⟩
                      case measure => have := HI.out; simp [intOf]; omega
                    · go_simp
                      refine (flag_c _ _).mono ?_
                      rintro e w' ⟨rfl, rfl⟩
                      refine hK.out _ _ ?_ (fun hHeld => ?_)
                      · exact trivial
                      clear hK K
                      try simp only [Act.put, List.setIfInBounds_toArray, List.set_cons_zero, List.set_cons_succ]
                      refine wpAnyH_ready (rs := [3]) (by kernel_rfl) (by simp) ?_
                      refine (AllReadyH.cons (o := { dst := some 96, op := Op.load 3 (Operand.tmp 95), type := 3, pos := _, after := #[{ on := 2, ground := Ground.data }], guard := none }) rfl (fun K hK => ?_) AllReadyH.nil)
                      go_simp
                      refine hK.out _ _ ?_ (fun hHeld => ?_)
                      · exact trivial
                      clear hK K
                      try simp only [Act.put, List.setIfInBounds_toArray, List.set_cons_zero, List.set_cons_succ]
                      refine wpAnyH_take (i := 8) (oi := { dst := some 101, op := Op.binOp BinOp.add 3 (Operand.tmp 96) (Operand.tmp 100) 3, type := 3, pos := _, after := #[{ on := 3, ground := Ground.data }, { on := 7, ground := Ground.data }], guard := none }) (v := ?_) rfl (by kernel_rfl) (by kernel_rfl) (by kernel_rfl) (fun _ _ _ h => h) (Or.inl ⟨by rfl, ?_⟩) (by assumption) ?_
                      rotate_left
                      · (intro w hSw; clear hSw; (go_simp <;> with_reducible rfl))
                      try simp only [Act.put, List.setIfInBounds_toArray, List.set_cons_zero, List.set_cons_succ]
                      refine wpAnyH_take (i := 9) (oi := { dst := some 102, op := Op.indexAddr 22 (Operand.tmp 93) (Operand.tmp 94), type := 0, pos := _, after := #[{ on := 0, ground := Ground.data }, { on := 1, ground := Ground.data }, { on := 0, ground := Ground.phase }, { on := 1, ground := Ground.phase }, { on := 2, ground := Ground.phase }, { on := 3, ground := Ground.phase }, { on := 4, ground := Ground.phase }, { on := 5, ground := Ground.phase }, { on := 6, ground := Ground.phase }, { on := 7, ground := Ground.phase }, { on := 8, ground := Ground.phase }], guard := none }) (v := ?_) rfl (by kernel_rfl) (by kernel_rfl) (by kernel_rfl) (fun _ _ _ h => h) (Or.inl ⟨by rfl, ?_⟩) (by assumption) ?_
                      rotate_left
                      · (intro w hSw; clear hSw; (go_simp <;> with_reducible rfl))
                      try simp only [Act.put, List.setIfInBounds_toArray, List.set_cons_zero, List.set_cons_succ]
                      refine wpAnyH_ready (rs := [10]) (by kernel_rfl) (by simp) ?_
                      refine (AllReadyH.cons (o := { dst := none, op := Op.store 3 (Operand.tmp 102) (Operand.tmp 101), type := 0, pos := _, after := #[{ on := 9, ground := Ground.data }, { on := 8, ground := Ground.data }, { on := 7, ground := Ground.chain }, { on := 0, ground := Ground.phase }, { on := 1, ground := Ground.phase }, { on := 2, ground := Ground.phase }, { on := 3, ground := Ground.phase }, { on := 4, ground := Ground.phase }, { on := 5, ground := Ground.phase }, { on := 6, ground := Ground.phase }, { on := 7, ground := Ground.phase }, { on := 8, ground := Ground.phase }], guard := none }) rfl (fun K hK => ?_) AllReadyH.nil)
                      go_simp
                      refine hK.out _ _ ?_ (fun hHeld => ?_)
                      · exact trivial
                      clear hK K
                      try simp only [Act.put, List.setIfInBounds_toArray, List.set_cons_zero, List.set_cons_succ]
                      refine wpAnyH_done (by kernel_rfl) ?_ _
                      clear hHeld
                      go_wp2_with fail
                      go_roundw
                      case rel => exact ⟨i + 1, (by have := HI.out; omega), by go_num, hownN, hGN⟩
                      case measure => have := HI.out; simp [intOf]; omega
            · obtain rfl : i = ws.length := by omega
              rw [mK_all, HRF.out] at hown
              go_wp2_with fail
              go_ret
              exact ⟨_, rfl, Rd.of_owns hown, hG⟩
end Go.Proofs.YtamoefnpfkcigaaDoor

/- The law CentsSplit. Written by gencsl.py. -/
namespace Go.Proofs.YtamoefnpfkcigaaDoor
open Go.RowKit

set_option maxRecDepth 100000 in
set_option maxHeartbeats 8000000 in
theorem centsSplit_c (a : Option Addr) (n c : Nat) (zs : List Int) (W : World) (hr : Rd W 1 (.slice a n c) n (zs.map (Value.int .i64))) (hz : ∀ z ∈ zs, -9223372036854775808 ≤ z ∧ z ≤ 9223372036854775807) :
    Calls Tryd.prog 3 #[.slice a n c] W fun e W' => e = .returned (.bool true) ∧ G W W' none := by
  have hSB : SB (W.alloc (.cells #[.slice a n c, .int .i64 0] 25)) W.heap.size 0 := by
    have hB := Bk.new W 25 #[.slice a n c, .int .i64 0]
    refine ⟨0, a, n, c, zs, Nat.le_refl _, hr.quiet ((G.refl _ _).alloc _), fun b e => ?_, hz, hB.cell 0, hB.cell 1, hB.free 1, hB.lt⟩
    obtain ⟨a', c', e', r1, r2, r3, r4, r5⟩ := hr
    cases e'
    exact (r5 b e).2.1
  have hG0 : G W (W.alloc (.cells #[.slice a n c, .int .i64 0] 25)) (some W.heap.size) := (G.refl _ _).alloc _
  clear hr hz
  go_enter Tryd.func3, Tryd.ntmps3
  go_upto_region 2 with fail
  generalize W.alloc (.cells #[.slice a n c, .int .i64 0] 25) = w0 at hSB hG0 ⊢
  go_wp2_with fail
  refine (pick_c _ _ _ [0, 1, 2, 99, 100, 101, 12345, 1000000000, -1] _ _ _ (hSB.alloc _) (by omega) (by decide) (by decide) (Rd.newAt _ rfl rfl (by decide)) (hSB.newAt _ _ _ (Nat.le_refl _))).mono ?_; rintro e w1 ⟨ct, rfl, hp, hSB1, hh⟩
  have hG1 := (hG0.alloc (.cells _ 3)).trans hh
  clear hSB hG0 hh hp
  go_wp2_with fail
  refine (weights_c _ _ _ hSB1 (by omega)).mono ?_; rintro e w2 ⟨v, ws, rfl, hown, hn1, hn6, -, hSB2, hh⟩
  have hG2 := hG1.trans hh
  have hR := Rd.of_owns hown
  clear hSB1 hG1 hh hown
  obtain ⟨a1, c1, rfl, -, -⟩ := RdR.form (c := inC) hR
  have CS := Lib.hid (fun w' (q : RdI w' (.slice a1 ws.length c1) ws) => split_c ct _ ws w' q (by omega))
  have CF := Lib.hid (fun w' (q : RdI w' (.slice a1 ws.length c1) ws) => splitFault_c ct _ ws w' q (by omega))
  have CO := Lib.hid (fun (e : spE ct ws = 0) w' (q : RdI w' (.slice a1 ws.length c1) ws) => splitOf_c ct _ ws w' q e)
  have HP := Lib.hid (fun (e : spE ct ws = 0) => spP_eq e)
  have hN : (rfP ct ws).length ≤ 6 := by simp [rfP]; omega
  generalize spE ct ws = E at CS CF CO HP
  generalize spP ct ws = PP at CS HP
  generalize rfP ct ws = PF at CO HP hN
  go_wp2_with fail
  refine (CS.out _ hR).mono ?_; rintro e w3 ⟨v3, rfl, hR3, hh⟩
  replace hR := hR.quiet hh
  have hG3 := hG2.trans0 hh
  have hSB3 := hSB2.quiet hh
  clear hG2 hSB2 hh CS
  go_wp2_with fail
  refine (CF.out _ hR).mono ?_; rintro e w4 ⟨rfl, hh⟩
  replace hR := hR.quiet hh
  replace hR3 := Rd.quiet hR3 hh
  have hG4 := hG3.trans0 hh
  have hSB4 := hSB3.quiet hh
  clear hG3 hSB3 hh CF
  have hee : (E != E) = false := by simp
  by_cases hE : E = 0
  · subst hE
    rw [if_pos rfl] at hR3
    obtain ⟨a3, c3, rfl, -, -⟩ := RdR.form (c := inC) hR3
    have hPP := HP.out rfl
    subst hPP
    clear HP
    go_wp2_with fail
    refine (CO.out trivial _ hR).mono ?_; rintro e w5 ⟨v5, rfl, hR5, hh⟩
    replace hR3 := Rd.quiet hR3 hh
    have hG5 := hG4.trans0 hh
    have hSB5 := hSB4.quiet hh
    clear hG4 hSB4 hh CO
    go_wp2_with fail
    refine (inEqual_c _ _ PP _ hR3 hR5 (by omega)).mono ?_; rintro e w5b ⟨rfl, hh⟩
    have hG5b := hG5.trans0 hh
    have hSB5b := hSB5.quiet hh
    clear hG5 hSB5 hh hR hR3 hR5
    go_wp2_with fail
    refine (shares_c _ _ _ hSB5b (by omega)).mono ?_; rintro e w6 ⟨va, vb, la, lb, rfl, hLa, hLb, hoa, hob, hna, hnb, hSB6, hh⟩
    have hG6 := (hG5b.trans hh).own (Nat.le_refl _)
    clear hSB5b hG5b hh hSB6
    obtain ⟨aa, ca, rfl, -, -⟩ := RdR.form (c := shC) hLa
    obtain ⟨ab, cb, rfl, -, -⟩ := RdR.form (c := wvC) hLb
    have XE := Lib.hid (fun w' (q : RdR w' 2 shC (.slice aa la.length ca) la) (q2 : RdR w' 2 wvC (.slice ab lb.length cb) lb) => excess_c _ _ la lb w' q hoa (by omega) q2 hob (by omega))
    have XF := Lib.hid (fun w' (q : RdR w' 2 shC (.slice aa la.length ca) la) (q2 : RdR w' 2 wvC (.slice ab lb.length cb) lb) => sharesFault_c _ _ la lb w' q hoa (by omega) q2 hob (by omega))
    have XO := Lib.hid (fun (e : ssE la lb = 0) w' (q : RdR w' 2 shC (.slice aa la.length ca) la) (q2 : RdR w' 2 wvC (.slice ab lb.length cb) lb) => excessOf_c _ _ la lb w' q q2 (ssE_mo e).1 (ssE_mo e).2 (by omega) (by omega))
    have hXn : (exL la lb).length ≤ 5 := by have := exL_len la lb; omega
    have HN1 : Hid (ssE la lb = 0 → exN la lb = exR la lb) := Lib.hid (fun e => if_pos e)
    have HN0 : Hid (ssE la lb ≠ 0 → exN la lb = 0) := Lib.hid (fun e => if_neg e)
    generalize exN la lb = XN at XE HN1 HN0
    generalize ssE la lb = F at XE XF XO HN1 HN0
    generalize exL la lb = XL at XE XO hXn
    generalize exR la lb = XR at XO HN1
    go_wp2_with fail
    refine (XE.out _ hLa hLb).mono ?_; rintro e w7 ⟨v7, rfl, hR7, hh⟩
    replace hLa := Rd.quiet hLa hh
    replace hLb := Rd.quiet hLb hh
    have hG7 := hG6.trans hh
    clear hG6 hh XE
    go_wp2_with fail
    refine (XF.out _ hLa hLb).mono ?_; rintro e w8 ⟨rfl, hh⟩
    replace hLa := Rd.quiet hLa hh
    replace hLb := Rd.quiet hLb hh
    replace hR7 := Rd.quiet hR7 hh
    have hG8 := hG7.trans hh
    clear hG7 hh XF
    have hff : (F == F) = true := by simp
    by_cases hF : F = 0
    · subst hF
      obtain rfl := HN1.out rfl
      rw [if_pos rfl] at hR7
      obtain ⟨a7, c7, rfl, -, -⟩ := RdR.form (c := shC) hR7
      have hxx : (XN == XN) = true := by simp
      go_wp2_with fail
      refine (XO.out trivial _ hLa hLb).mono ?_; rintro e w9 ⟨v9, rfl, hown9, hh⟩
      have hR9 := Rd.of_owns hown9
      replace hR7 := Rd.quiet hR7 hh
      have hG9 := hG8.trans hh
      clear hG8 hh XO hown9 hLa hLb
      go_wp2_with fail
      refine (shEqual_c _ _ XL XL _ hR7 hR9 (by omega)).mono ?_; rintro e wa ⟨rfl, hh⟩
      rw [show decide (XL = XL) = true by simp]
      have hGa := hG9.trans hh
      go_wp2_with fail
      refine (marked_c _).mono ?_; rintro e wb ⟨rfl, hh⟩
      have hGb := hGa.trans hh
      go_wp2_with fail
      go_ret
      exact ⟨rfl, hGb⟩
    · obtain rfl := HN0.out hF
      have hf0 : (F != 0) = true := bne_iff_ne.2 hF
      rw [if_neg hF] at hR7
      obtain ⟨a7, c7, rfl, -, -⟩ := RdR.form (c := shC) hR7
      go_wp2_with fail
      refine (marked_c _).mono ?_; rintro e wb ⟨rfl, hh⟩
      have hGb := hG8.trans hh
      go_wp2_with fail
      go_ret
      exact ⟨rfl, hGb⟩
  · have he0 : (E != 0) = true := bne_iff_ne.2 hE
    have he1 : (E == 0) = false := beq_eq_false_iff_ne.2 hE
    rw [if_neg hE] at hR3
    obtain ⟨a3, c3, rfl, -, -⟩ := RdR.form (c := inC) hR3
    clear CO HP hR hR3
    go_wp2_with fail
    refine (shares_c _ _ _ hSB4 (by omega)).mono ?_; rintro e w6 ⟨va, vb, la, lb, rfl, hLa, hLb, hoa, hob, hna, hnb, hSB6, hh⟩
    have hG6 := (hG4.trans hh).own (Nat.le_refl _)
    clear hSB4 hG4 hh hSB6
    obtain ⟨aa, ca, rfl, -, -⟩ := RdR.form (c := shC) hLa
    obtain ⟨ab, cb, rfl, -, -⟩ := RdR.form (c := wvC) hLb
    have XE := Lib.hid (fun w' (q : RdR w' 2 shC (.slice aa la.length ca) la) (q2 : RdR w' 2 wvC (.slice ab lb.length cb) lb) => excess_c _ _ la lb w' q hoa (by omega) q2 hob (by omega))
    have XF := Lib.hid (fun w' (q : RdR w' 2 shC (.slice aa la.length ca) la) (q2 : RdR w' 2 wvC (.slice ab lb.length cb) lb) => sharesFault_c _ _ la lb w' q hoa (by omega) q2 hob (by omega))
    have XO := Lib.hid (fun (e : ssE la lb = 0) w' (q : RdR w' 2 shC (.slice aa la.length ca) la) (q2 : RdR w' 2 wvC (.slice ab lb.length cb) lb) => excessOf_c _ _ la lb w' q q2 (ssE_mo e).1 (ssE_mo e).2 (by omega) (by omega))
    have hXn : (exL la lb).length ≤ 5 := by have := exL_len la lb; omega
    have HN1 : Hid (ssE la lb = 0 → exN la lb = exR la lb) := Lib.hid (fun e => if_pos e)
    have HN0 : Hid (ssE la lb ≠ 0 → exN la lb = 0) := Lib.hid (fun e => if_neg e)
    generalize exN la lb = XN at XE HN1 HN0
    generalize ssE la lb = F at XE XF XO HN1 HN0
    generalize exL la lb = XL at XE XO hXn
    generalize exR la lb = XR at XO HN1
    go_wp2_with fail
    refine (XE.out _ hLa hLb).mono ?_; rintro e w7 ⟨v7, rfl, hR7, hh⟩
    replace hLa := Rd.quiet hLa hh
    replace hLb := Rd.quiet hLb hh
    have hG7 := hG6.trans hh
    clear hG6 hh XE
    go_wp2_with fail
    refine (XF.out _ hLa hLb).mono ?_; rintro e w8 ⟨rfl, hh⟩
    replace hLa := Rd.quiet hLa hh
    replace hLb := Rd.quiet hLb hh
    replace hR7 := Rd.quiet hR7 hh
    have hG8 := hG7.trans hh
    clear hG7 hh XF
    have hff : (F == F) = true := by simp
    by_cases hF : F = 0
    · subst hF
      obtain rfl := HN1.out rfl
      rw [if_pos rfl] at hR7
      obtain ⟨a7, c7, rfl, -, -⟩ := RdR.form (c := shC) hR7
      have hxx : (XN == XN) = true := by simp
      go_wp2_with fail
      refine (XO.out trivial _ hLa hLb).mono ?_; rintro e w9 ⟨v9, rfl, hown9, hh⟩
      have hR9 := Rd.of_owns hown9
      replace hR7 := Rd.quiet hR7 hh
      have hG9 := hG8.trans hh
      clear hG8 hh XO hown9 hLa hLb
      go_wp2_with fail
      refine (shEqual_c _ _ XL XL _ hR7 hR9 (by omega)).mono ?_; rintro e wa ⟨rfl, hh⟩
      rw [show decide (XL = XL) = true by simp]
      have hGa := hG9.trans hh
      go_wp2_with fail
      refine (marked_c _).mono ?_; rintro e wb ⟨rfl, hh⟩
      have hGb := hGa.trans hh
      go_wp2_with fail
      go_ret
      exact ⟨rfl, hGb⟩
    · obtain rfl := HN0.out hF
      have hf0 : (F != 0) = true := bne_iff_ne.2 hF
      rw [if_neg hF] at hR7
      obtain ⟨a7, c7, rfl, -, -⟩ := RdR.form (c := shC) hR7
      go_wp2_with fail
      refine (marked_c _).mono ?_; rintro e wb ⟨rfl, hh⟩
      have hGb := hG8.trans hh
      go_wp2_with fail
      go_ret
      exact ⟨rfl, hGb⟩
end Go.Proofs.YtamoefnpfkcigaaDoor

/- What the row's list of variables gives; a start that meets it. -/
namespace Go.Proofs.YtamoefnpfkcigaaDoor
open Go.ChangeShapes Go.WideShapes Go.ChangeAt Go.RowKit

theorem own : ownKnob Tryd.prog.godebug = none := by kernel_rfl
theorem c1 : Tryd.prog.cellsOf 3 = 1 := by kernel_rfl
def laidL : List (String × DataW Unit) := [("unicode/utf8.acceptRanges", Rows.laid_unicode_utf8_acceptRanges), ("unicode/utf8.first", Rows.laid_unicode_utf8_first)]
/-- A start that meets the list: what the door's run leaves, Go's own table laid by hand. -/
noncomputable def laidWorld (os : Os) : World :=
  { World.doorLaid Tryd.prog 200 os with heap := (World.doorLaid Tryd.prog 200 os).heap.modify 0 fun
      | .cells _ t fr => .cells (Lib.firstTab.map (Value.int .u8)).toArray t fr
      | o => o }
set_option maxRecDepth 100000 in
theorem laid_met (os : Os) : laidMetH Tryd.prog laidL ((laidWorld os).forCall (fun _ _ => 0) ⟨#[], #[.slice none 0 0], []⟩).memory :=
  laidMetH_of_parts3 (fuel := 8) (laidMet_of_run' 8 (by kernel_rfl) (by kernel_rfl)) (by kernel_rfl) (by kernel_rfl)

/-! ### The row's last step -/
section
variable {H : Type} {enc : TypeId × Value → H} {P : Program}
theorem post_quiet {f : Func} {s : ChangeSpec} {apart fresh handsOn again : Bool} {W W' : World} {args : Array Value} {v : Value} {ds gs : List (DataW H)} {before pa pv : List MemPlace}
    (hW : DataW.Whole enc P f.params.toList s.vars apart W args.toList ds gs before) (hg : G W W' none)
    (hres : ∀ (b : Nat) (sp : Nat → Bool) (hd : Bool), DataW.TrodAll enc P W' b sp hd f.resultTypes.toList (v.resultList f.resultTypes.size) (s.fn H (ds ++ gs)).results [])
    (hargs : ∀ sp : Nat → Bool, (∀ p ∈ before, sp p.block = true) → DataW.TrodAll enc P W' 0 sp true f.params.toList args.toList (s.fn H (ds ++ gs)).args pa)
    (hvars : ∀ sp : Nat → Bool, (∀ p ∈ before, sp p.block = true) → DataW.TrodVars enc P W' sp s.vars (s.fn H (ds ++ gs)).vars pv)
    (hps : before = pa ++ pv)
    (hok : ∀ (j : Nat) (t : TypeId) (r : Value), f.resultTypes[j]? = some t → (v.resultList f.resultTypes.size)[j]? = some r → Value.okWide P W' .any 0 t r) :
    s.post enc P f apart fresh handsOn again W args v W' := by
  have hb := hg.below
  have lt : ∀ p ∈ before, p.block < W.heap.size := fun p hp => hW.lt p hp
  have old : ∀ p ∈ before, (fun b => decide (b < W.heap.size)) p.block = true := fun p hp => decide_eq_true (lt p hp)
  have sub : ∀ p, p ∈ ([] ++ pa) ++ pv → p ∈ before := fun p hp => by rw [hps]; simpa using hp
  refine ⟨ds, gs, before, [], pa, pv, hW, hres _ _ _, hargs _ old, hvars _ old, World.keptBut_mono (fun p hp => ⟨hp, .inr (by rw [← List.mem_append, ← hps]; exact hp)⟩) (hb.frame (· ∈ before)), fun _ => ⟨hok, ?_⟩⟩
  obtain ⟨_, _, _, _, _, hz, hn⟩ := hW
  refine ⟨_, _, ([] ++ pa) ++ pv, ⟨[] ++ pa, pv, trodAll_append (hargs _ fun _ _ => rfl) (hres _ _ _), hvars _ fun _ _ => rfl, rfl, fun b off hp => ?_, fun ha => ?_⟩, fun p hp _ => sub p hp⟩
  · rw [hb.frozen (lt _ (sub _ hp))]
    exact hz b off (sub _ hp)
  · have h := hn ha
    rw [hps] at h
    simpa using h
end
theorem laidOut : laidOutB Tryd.prog = true := by kernel_rfl
theorem wf64 {n : Int} (h : (Lit.int .i64 n).wf = true) : -9223372036854775808 ≤ n ∧ n ≤ 9223372036854775807 := by
  have h1 : IntKind.i64.min = -9223372036854775808 := rfl
  have h2 : IntKind.i64.max = 9223372036854775807 := rfl
  simp only [Lit.wf, Bool.and_eq_true, decide_eq_true_eq] at h
  omega
set_option maxRecDepth 100000 in
theorem has_of_ok {W : World} {base : Nat} {a : Addr} {n c : Nat} (hok : Value.okWide Tryd.prog W .any base 22 (.slice (some a) n c)) : a.spot = none ∧ a.block < W.heap.size := by
  simp only [Value.okWide, Tryd.underlying22, Cell.okWide, Cell.ok] at hok
  obtain ⟨_, _, _, h2, row, cells, h3, _⟩ := hok
  refine ⟨h2, ?_⟩
  unfold World.shape? at h3
  cases hh : W.heap[a.block]? with
  | none => simp [hh] at h3
  | some o => exact (Array.getElem?_eq_some_iff.1 hh).1
set_option maxRecDepth 100000 in
/-- The list of numbers that came in, as the walk wants it. -/
theorem rd_of_trod {H : Type} {enc : TypeId × Value → H} {W : World} {base : Nat} {v : Value} {d : DataW H} {p : List MemPlace} (hok : Value.okWide Tryd.prog W .any base 22 v) (h : DataW.Trod enc Tryd.prog W 0 (fun _ => true) true 22 v d p) :
    ∃ (a : Option Addr) (n c : Nat) (zs : List Int), v = .slice a n c ∧ Rd W 1 (.slice a n c) n (zs.map (Value.int .i64)) ∧ ∀ z ∈ zs, -9223372036854775808 ≤ z ∧ z ≤ 9223372036854775807 := by
  obtain ⟨a0, len, cap, rfl⟩ := okWide_slice Tryd.underlying22 hok
  obtain ⟨fuel, hf⟩ := h
  rcases open_ints Tryd.underlying22 Tryd.underlying3 c1 hf with ⟨hcs, _⟩ | ⟨a, len', cap', zs, hcs, _, hl, hm, hz, _, hcell, hw⟩
  · have hcs' : [Value.slice a0 len cap] = [Value.slice none 0 0] := hcs
    injection hcs' with e _
    injection e with e1 e2 e3
    subst e1; subst e2; subst e3
    exact ⟨none, 0, 0, [], rfl, ⟨none, 0, rfl, Nat.le_refl _, Nat.zero_le _, rfl, fun _ => ⟨rfl, rfl⟩, fun b hb => by cases hb⟩, fun z hz => by cases hz⟩
  · have hcs' : [Value.slice a0 len cap] = [Value.slice (some a) len' cap'] := hcs
    injection hcs' with e _
    injection e with e1 e2 e3
    subst e1; subst e2; subst e3
    simp only [if_true] at hz
    obtain ⟨s1, s2⟩ := has_of_ok hok
    refine ⟨some a, len, cap, zs.take len, rfl, ⟨some a, cap, rfl, hl, hm, by simp; omega, (fun e => by cases e), fun b hb => ?_⟩, fun z hz' => wf64 (hw z (List.mem_of_mem_take hz'))⟩
    obtain rfl := Option.some.inj hb
    refine ⟨s1, s2, fun j u hj => ?_⟩
    rw [List.getElem?_map] at hj
    obtain ⟨z, hz1, rfl⟩ := Option.map_eq_some_iff.1 hj
    have hjl := (List.getElem?_eq_some_iff.1 hz1).1
    simp at hjl
    have hc := hcell j (by omega)
    have hz2 : zs[j]? = some z := by rw [← hz1, List.getElem?_take, if_pos (by omega)]
    rw [List.getD, hz2] at hc
    have ha : a.add j = ⟨a.block, a.off + j, none⟩ := by
      obtain ⟨ab, ao, asp⟩ := a
      dsimp only at s1
      subst s1
      exact add_at ab ao j
    rw [ha] at hc
    exact hc
end Go.Proofs.YtamoefnpfkcigaaDoor
