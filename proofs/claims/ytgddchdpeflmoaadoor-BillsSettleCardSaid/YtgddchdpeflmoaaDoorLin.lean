/- Lines: CheckLines, LinesFault, sumOf, Total, SumOf. Written by genlin.py. -/
import Derived.Test.YtgddchdpeflmoaaDoorRow
import Derived.Test.YtgddchdpeflmoaaDoorErrs
import Derived.Test.YtgddchdpeflmoaaDoorOrd
import Derived.Test.YtgddchdpeflmoaaDoorRkey
namespace Go.Proofs.YtgddchdpeflmoaaDoor
open Go.RowKit

/-- A line: kind, key, cents. -/
abbrev Li := Int × ByteArray × Int
def liC (x : Li) : Array Value := #[.int .i64 x.1, .string x.2.1, .int .i64 x.2.2]
theorem liC_sz (x : Li) : (liC x).size = 3 := rfl
theorem li_info (x : Li) : (Tryd.prog.info? 44).map (·.size) = some (liC x).size := (by kernel_rfl : (Tryd.prog.info? 44).map (·.size) = some 3)
def LiOk (l : List Li) : Prop := ∀ x ∈ l, Small x.2.1
def liErr : List Li → Int
  | [] => 0
  | x :: r => if inB x.1 1 6 = false then 4 else if keyB x.2.1 = false then 5 else if inB x.2.2 (-1000000000) 1000000000 = false then 1 else liErr r
def liE (l : List Li) : Int := if 1000 < l.length then 2 else liErr l
/-- What the lines cost in all. -/
def liS (l : List Li) : Int := (l.map fun x => x.2.2).sum
def LiB (l : List Li) : Prop := ∀ x ∈ l, -1000000000 ≤ x.2.2 ∧ x.2.2 ≤ 1000000000
theorem liErr_b : ∀ (l : List Li), liErr l = 0 → LiB l
  | [], _, p, hp => by cases hp
  | x :: r, h, p, hp => by
    unfold liErr at h
    split at h
    · omega
    · split at h
      · omega
      · split at h
        · omega
        · rename_i h3
          rcases List.mem_cons.1 hp with rfl | hp
          · simpa [inB] using h3
          · exact liErr_b r h p hp
theorem liE_ok {l : List Li} (h : liE l = 0) : LiB l ∧ l.length ≤ 1000 := by
  unfold liE at h
  split at h
  · omega
  · exact ⟨liErr_b l h, by omega⟩
theorem liS_step (l : List Li) (k : Nat) (p : Li) (hp : l[k]? = some p) : liS (l.take (k + 1)) = liS (l.take k) + p.2.2 := by
  unfold liS
  rw [List.take_add_one, hp]
  simp
theorem liS_bnd (l : List Li) (hb : LiB l) : ∀ k, k ≤ l.length → -(1000000000 * (k : Int)) ≤ liS (l.take k) ∧ liS (l.take k) ≤ 1000000000 * (k : Int)
  | 0, _ => by simp [liS]
  | k + 1, h => by
    obtain ⟨p, hp⟩ : ∃ p, l[k]? = some p := ⟨_, List.getElem?_eq_getElem (by omega)⟩
    have h1 := liS_bnd l hb k (by omega)
    have h2 := hb p (List.mem_of_getElem? hp)
    rw [liS_step l k p hp]
    omega
def LiRel (w : World) (l : List Li) (i : Value) (wr : World) : Prop :=
  ∃ k : Nat, k ≤ l.length ∧ i = .int .i64 k ∧ liErr l = liErr (l.drop k) ∧ G w wr none
def LsuRel (w : World) (l : List Li) (s i : Value) (wr : World) : Prop :=
  ∃ k : Nat, k ≤ l.length ∧ i = .int .i64 k ∧ s = .int .i64 (liS (l.take k)) ∧ G w wr none
theorem liRow {W w : World} {bb bo n cap : Nat} {l : List Li} (h : RdR W 3 liC (.slice (some ⟨bb, bo, none⟩) n cap) l) (hG : G W w none) {k : Nat} {p : Li} (hp : l[k]? = some p) :
    ∀ j v, (liC p).toList[j]? = some v → w.cell? ((⟨bb, bo + k * 3, none⟩ : Addr).add j) = some v := fun j v hv => by
  rw [add_at]
  exact RdR.cell liC_sz h hG hp j v hv
theorem isLineKind_c (k : Int) (w : World) : Calls Tryd.prog 39 #[.int .i64 k] w fun e w' => e = .returned (.bool (inB k 1 6)) ∧ w = w' := by
  go_enter Tryd.func39, Tryd.ntmps39
  go_wp2_with fail
  refine (within_c _ _ _ _).mono ?_; rintro e w' ⟨rfl, rfl⟩
  go_wp2_with fail
  go_ret
  exact ⟨rfl, rfl⟩
set_option maxRecDepth 100000 in
set_option maxHeartbeats 4000000 in
theorem checkLines_c (v : Value) (l : List Li) (w : World) (hr : RdR w 3 liC v l) (hl : LiOk l) (hn : l.length ≤ 2000) :
    Calls Tryd.prog 26 #[v] w fun e w' => e = .returned (.int .i64 (liE l)) ∧ G w w' none := by
  have HR := Lib.hid hr
  obtain ⟨a, cap, rfl, hcap, hm⟩ := RdR.form hr
  clear hr
  by_cases h30 : 1000 < l.length
  · have H := Lib.hid (show liE l = 2 by simp [liE, h30])
    go_enter Tryd.func26, Tryd.ntmps26
    go_wp2_with fail
    go_ret
    exact ⟨by rw [H.out]; rfl, G.refl _ _⟩
  · have H := Lib.hid (show liE l = liErr l by simp [liE, h30])
    go_enter Tryd.func26, Tryd.ntmps26
    go_wp2_with fail
    go_loopw [10] (LiRel w l) (fun i _ => l.length - (intOf i).toNat)
    case atStart => exact ⟨0, by omega, rfl, rfl, G.refl _ _⟩
    case round =>
      obtain ⟨k, hkl, rfl, heq, hG⟩ := hrel
      have HE := Lib.hid heq
      clear heq
      by_cases hk : k < l.length
      · obtain ⟨p, hp⟩ : ∃ p, l[k]? = some p := ⟨_, List.getElem?_eq_getElem hk⟩
        have hdrop : l.drop k = p :: l.drop (k + 1) := by rw [List.drop_eq_getElem_cons hk, ← (List.getElem?_eq_some_iff.1 hp).2]
        have hs1 := hl p (List.mem_of_getElem? hp)
        obtain ⟨bb, bo, rfl, -, -⟩ := RdR.elem liC_sz HR.out hG hp
        have HW := Lib.hid (liRow HR.out hG hp)
        unfold Small at hs1
        have HS : Hid (liErr (l.drop k) = if inB p.1 1 6 = false then 4 else if keyB p.2.1 = false then 5 else if inB p.2.2 (-1000000000) 1000000000 = false then 1 else liErr (l.drop (k + 1))) := Lib.hid (by rw [hdrop]; rfl)
        have HK := Lib.hid hk
        have hB5 : Bk (wr.alloc (.cells #[.int .i64 p.1, .string p.2.1, .int .i64 p.2.2] 44)) wr.heap.size 44 (liC p) := Bk.new _ _ _
        have hG5 := hG.alloc (.cells #[.int .i64 p.1, .string p.2.1, .int .i64 p.2.2] 44)
        clear hdrop hp hG
        go_wp2_with (refine wpList_load_at rfl 44 _ rfl ⟨bb, bo + k * 3, none⟩ rfl #[.int .i64 p.1, .string p.2.1, .int .i64 p.2.2] _ HW.out Tryd.underlying44 rfl (li_info p) ?_)
        generalize wr.alloc (.cells #[.int .i64 p.1, .string p.2.1, .int .i64 p.2.2] 44) = w5 at hB5 hG5 ⊢
        generalize wr.heap.size = g at hB5 ⊢
        have c0 : w5.cell? ⟨g, 0, none⟩ = some (.int .i64 p.1) := hB5.cell 0
        have c1 : w5.cell? ⟨g, 1, none⟩ = some (.string p.2.1) := hB5.cell 1
        have c2 : w5.cell? ⟨g, 2, none⟩ = some (.int .i64 p.2.2) := hB5.cell 2
        refine (isLineKind_c _ _).mono ?_; rintro e w' ⟨rfl, rfl⟩
        cases k0 : inB p.1 1 6 with
        | false =>
          have HF : Hid (liE l = 4) := Lib.hid (by rw [H.out, HE.out, HS.out, if_pos k0])
          clear k0
          go_wp2_with fail
          go_ret
          exact ⟨by rw [HF.out]; rfl, hG5⟩
        | true =>
          have K0 := Lib.hid k0
          clear k0
          go_wp2_with fail
          refine (isKey_c _ _ hs1).mono ?_; rintro e w' ⟨rfl, rfl⟩
          cases k1 : keyB p.2.1 with
          | false =>
            have HF : Hid (liE l = 5) := Lib.hid (by rw [H.out, HE.out, HS.out, if_neg (by simp [K0.out]), if_pos k1])
            clear k1
            go_wp2_with fail
            go_ret
            exact ⟨by rw [HF.out]; rfl, hG5⟩
          | true =>
            have K1 := Lib.hid k1
            clear k1
            go_wp2_with fail
            refine (within_c _ _ _ _).mono ?_; rintro e w' ⟨rfl, rfl⟩
            cases k2 : inB p.2.2 (-1000000000) 1000000000 with
            | false =>
              have HF : Hid (liE l = 1) := Lib.hid (by rw [H.out, HE.out, HS.out, if_neg (by simp [K0.out]), if_neg (by simp [K1.out]), if_pos k2])
              clear k2
              go_wp2_with fail
              go_ret
              exact ⟨by rw [HF.out]; rfl, hG5⟩
            | true =>
              have HF : Hid (liErr l = liErr (l.drop (k + 1))) := Lib.hid (by rw [HE.out, HS.out, if_neg (by simp [K0.out]), if_neg (by simp [K1.out]), if_neg (by simp [k2])])
              clear k2
              go_wp2_with fail
              go_roundw
              case rel => exact ⟨k + 1, by omega, by go_num, HF.out, hG5⟩
              case measure => have := HK.out; simp [intOf]; omega
      · obtain rfl : k = l.length := by omega
        have HE2 : Hid (liE l = 0) := Lib.hid (by rw [H.out, HE.out, List.drop_length]; rfl)
        go_wp2_with fail
        go_ret
        exact ⟨by rw [HE2.out]; rfl, hG⟩
set_option maxRecDepth 100000 in
set_option maxHeartbeats 4000000 in
theorem linesFault_c (v : Value) (l : List Li) (w : World) (hr : RdR w 3 liC v l) (hl : LiOk l) (hn : l.length ≤ 2000) :
    Calls Tryd.prog 7 #[v] w fun e w' => e = .returned (.int .i64 (liE l)) ∧ G w w' none := by
  have HR := Lib.hid hr
  obtain ⟨a, cap, rfl, hcap, hm⟩ := RdR.form hr
  clear hr
  by_cases h30 : 1000 < l.length
  · have H := Lib.hid (show liE l = 2 by simp [liE, h30])
    go_enter Tryd.func7, Tryd.ntmps7
    go_wp2_with fail
    go_ret
    exact ⟨by rw [H.out]; rfl, G.refl _ _⟩
  · have H := Lib.hid (show liE l = liErr l by simp [liE, h30])
    go_enter Tryd.func7, Tryd.ntmps7
    go_wp2_with fail
    go_loopw [10] (LiRel w l) (fun i _ => l.length - (intOf i).toNat)
    case atStart => exact ⟨0, by omega, rfl, rfl, G.refl _ _⟩
    case round =>
      obtain ⟨k, hkl, rfl, heq, hG⟩ := hrel
      have HE := Lib.hid heq
      clear heq
      by_cases hk : k < l.length
      · obtain ⟨p, hp⟩ : ∃ p, l[k]? = some p := ⟨_, List.getElem?_eq_getElem hk⟩
        have hdrop : l.drop k = p :: l.drop (k + 1) := by rw [List.drop_eq_getElem_cons hk, ← (List.getElem?_eq_some_iff.1 hp).2]
        have hs1 := hl p (List.mem_of_getElem? hp)
        obtain ⟨bb, bo, rfl, -, -⟩ := RdR.elem liC_sz HR.out hG hp
        have HW := Lib.hid (liRow HR.out hG hp)
        unfold Small at hs1
        have HS : Hid (liErr (l.drop k) = if inB p.1 1 6 = false then 4 else if keyB p.2.1 = false then 5 else if inB p.2.2 (-1000000000) 1000000000 = false then 1 else liErr (l.drop (k + 1))) := Lib.hid (by rw [hdrop]; rfl)
        have HK := Lib.hid hk
        have hB5 : Bk (wr.alloc (.cells #[.int .i64 p.1, .string p.2.1, .int .i64 p.2.2] 44)) wr.heap.size 44 (liC p) := Bk.new _ _ _
        have hG5 := hG.alloc (.cells #[.int .i64 p.1, .string p.2.1, .int .i64 p.2.2] 44)
        clear hdrop hp hG
        go_wp2_with (refine wpList_load_at rfl 44 _ rfl ⟨bb, bo + k * 3, none⟩ rfl #[.int .i64 p.1, .string p.2.1, .int .i64 p.2.2] _ HW.out Tryd.underlying44 rfl (li_info p) ?_)
        generalize wr.alloc (.cells #[.int .i64 p.1, .string p.2.1, .int .i64 p.2.2] 44) = w5 at hB5 hG5 ⊢
        generalize wr.heap.size = g at hB5 ⊢
        have c0 : w5.cell? ⟨g, 0, none⟩ = some (.int .i64 p.1) := hB5.cell 0
        have c1 : w5.cell? ⟨g, 1, none⟩ = some (.string p.2.1) := hB5.cell 1
        have c2 : w5.cell? ⟨g, 2, none⟩ = some (.int .i64 p.2.2) := hB5.cell 2
        refine (in_c _ _ _ _).mono ?_; rintro e w' ⟨rfl, rfl⟩
        cases k0 : inB p.1 1 6 with
        | false =>
          have HF : Hid (liE l = 4) := Lib.hid (by rw [H.out, HE.out, HS.out, if_pos k0])
          clear k0
          go_wp2_with fail
          go_ret
          exact ⟨by rw [HF.out]; rfl, hG5⟩
        | true =>
          have K0 := Lib.hid k0
          clear k0
          go_wp2_with fail
          refine (rkey_c _ _ hs1).mono ?_; rintro e w6 ⟨rfl, hGk⟩
          have hB5 := hB5.quiet hGk
          have hG5 := hG5.trans hGk
          clear hGk c0 c1 c2
          have c2 : w6.cell? ⟨g, 2, none⟩ = some (.int .i64 p.2.2) := hB5.cell 2
          cases k1 : keyB p.2.1 with
          | false =>
            have HF : Hid (liE l = 5) := Lib.hid (by rw [H.out, HE.out, HS.out, if_neg (by simp [K0.out]), if_pos k1])
            clear k1
            go_wp2_with fail
            go_ret
            exact ⟨by rw [HF.out]; rfl, hG5⟩
          | true =>
            have K1 := Lib.hid k1
            clear k1
            go_wp2_with fail
            refine (in_c _ _ _ _).mono ?_; rintro e w' ⟨rfl, rfl⟩
            cases k2 : inB p.2.2 (-1000000000) 1000000000 with
            | false =>
              have HF : Hid (liE l = 1) := Lib.hid (by rw [H.out, HE.out, HS.out, if_neg (by simp [K0.out]), if_neg (by simp [K1.out]), if_pos k2])
              clear k2
              go_wp2_with fail
              go_ret
              exact ⟨by rw [HF.out]; rfl, hG5⟩
            | true =>
              have HF : Hid (liErr l = liErr (l.drop (k + 1))) := Lib.hid (by rw [HE.out, HS.out, if_neg (by simp [K0.out]), if_neg (by simp [K1.out]), if_neg (by simp [k2])])
              clear k2
              go_wp2_with fail
              go_roundw
              case rel => exact ⟨k + 1, by omega, by go_num, HF.out, hG5⟩
              case measure => have := HK.out; simp [intOf]; omega
      · obtain rfl : k = l.length := by omega
        have HE2 : Hid (liE l = 0) := Lib.hid (by rw [H.out, HE.out, List.drop_length]; rfl)
        go_wp2_with fail
        go_ret
        exact ⟨by rw [HE2.out]; rfl, hG⟩
set_option maxRecDepth 100000 in
set_option maxHeartbeats 2000000 in
theorem sumOf_c (v : Value) (l : List Li) (w : World) (hr : RdR w 3 liC v l) (hb : LiB l) (hn : l.length ≤ 1000) :
    Calls Tryd.prog 27 #[v] w fun e w' => e = .returned (.int .i64 (liS l)) ∧ G w w' none := by
  have HR := Lib.hid hr
  obtain ⟨a, cap, rfl, hcap, hm⟩ := RdR.form hr
  clear hr
  go_enter Tryd.func27, Tryd.ntmps27
  go_wp2_with fail
  go_loopw [3, 8] (LsuRel w l) (fun _ i _ => l.length - (intOf i).toNat)
  case atStart => exact ⟨0, by omega, rfl, rfl, G.refl _ _⟩
  case round =>
    obtain ⟨k, hkl, rfl, rfl, hG⟩ := hrel
    have hbk := liS_bnd l hb k (by omega)
    by_cases hk : k < l.length
    · obtain ⟨p, hp⟩ : ∃ p, l[k]? = some p := ⟨_, List.getElem?_eq_getElem hk⟩
      have hst := liS_step l k p hp
      have hpb := hb p (List.mem_of_getElem? hp)
      obtain ⟨bb, bo, rfl, -, -⟩ := RdR.elem liC_sz HR.out hG hp
      have HW := Lib.hid (liRow HR.out hG hp)
      have HK := Lib.hid hk
      have hG5 := hG.alloc (.cells #[.int .i64 p.1, .string p.2.1, .int .i64 p.2.2] 44)
      obtain ⟨S, hS⟩ : ∃ S, liS (l.take k) = S := ⟨_, rfl⟩
      rw [hS] at hst hbk ⊢
      have HST := Lib.hid hst
      have hw : IntKind.i64.wrap (S + p.2.2) = S + p.2.2 := by rw [IntKind.wrap_i64]; omega
      clear hp hG hS hst
      go_wp2_with (refine wpList_load_at rfl 44 _ rfl ⟨bb, bo + k * 3, none⟩ rfl #[.int .i64 p.1, .string p.2.1, .int .i64 p.2.2] _ HW.out Tryd.underlying44 rfl (li_info p) ?_)
      go_roundw
      case rel => exact ⟨k + 1, by omega, by go_num, by rw [HST.out], hG5⟩
      case measure => have := HK.out; simp [intOf]; omega
    · obtain rfl : k = l.length := by omega
      have HF : Hid (liS (l.take l.length) = liS l) := Lib.hid (by rw [List.take_length])
      go_wp2_with fail
      go_ret
      exact ⟨ret_int HF.out, hG⟩
def toN (l : List Li) : Int := if liE l = 0 then liS l else 0
set_option maxRecDepth 100000 in
set_option maxHeartbeats 2000000 in
theorem total_c (v : Value) (l : List Li) (w : World) (hr : RdR w 3 liC v l) (hl : LiOk l) (hn : l.length ≤ 2000) :
    Calls Tryd.prog 11 #[v] w fun e w' => e = .returned (.tuple #[.int .i64 (toN l), .int .i64 (liE l)]) ∧ G w w' none := by
  go_enter Tryd.func11, Tryd.ntmps11
  go_wp2_with fail
  refine (checkLines_c v l _ hr hl hn).mono ?_; rintro e w1 ⟨rfl, hG1⟩
  by_cases h : liE l = 0
  · obtain ⟨h1, h2⟩ := liE_ok h
    have HF : Hid (toN l = liS l) := Lib.hid (if_pos h)
    have HE := Lib.hid h
    rw [h]
    clear h
    go_wp2_with fail
    refine (sumOf_c v l _ (hr.quiet hG1) h1 h2).mono ?_; rintro e w2 ⟨rfl, hG2⟩
    go_wp2_with fail
    go_ret2
    exact ⟨by rw [HF.out, HE.out]; rfl, hG1.trans hG2⟩
  · have HF : Hid (toN l = 0) := Lib.hid (if_neg h)
    have h' : (liE l != 0) = true := by simpa using h
    clear h
    go_wp2_with fail
    go_ret2
    exact ⟨by rw [HF.out]; rfl, hG1⟩
end Go.Proofs.YtgddchdpeflmoaaDoor
