/- Bkf, Ext, Fee, Tir, Pck, Can, Low, GenB, Bkd, Ccl, Lay. -/
import Derived.Test.YtndeidcddlmhbaaDoorZk1
import Derived.Deep.RegionHeld3
import Derived.IntWalk
import Derived.Laws.ResultCell
import Derived.StillTailTactics
import Derived.Laws.StructEq
import Derived.Test.YtndeidcddlmhbaaDoorRows
import Derived.Test.YtndeidcddlmhbaaDoorTie
import Derived.Test.YtndeidcddlmhbaaDoorCards
import Derived.LaidMore
import Derived.ChangeSame
import Derived.ProofKit
import Derived.OpenShut
import Derived.PinnedBridge
import Derived.Deep.DeepHandedRow
import Derived.Deep.DeepWitnessRowRef
/- Bookings: checkForm; the reference's BookingForm. -/
namespace Go.Proofs.YtndeidcddlmhbaaDoor
open Go.RowKit

/-- A booking: key, class, from, to, made, percent. -/
abbrev Bo := ByteArray × ByteArray × Int × Int × Int × Int
def boC (x : Bo) : Array Value := #[.string x.1, .string x.2.1, .int .i64 x.2.2.1, .int .i64 x.2.2.2.1, .int .i64 x.2.2.2.2.1, .int .i64 x.2.2.2.2.2]
theorem boC_sz (x : Bo) : (boC x).size = 6 := rfl
theorem bo_info (x : Bo) : (Tryd.prog.info? 31).map (·.size) = some (boC x).size := (by kernel_rfl : (Tryd.prog.info? 31).map (·.size) = some 6)
def boB (x : Bo) : Prop := Small x.1 ∧ Small x.2.1 ∧ bnd x.2.2.1 ∧ bnd x.2.2.2.1 ∧ bnd x.2.2.2.2.1 ∧ bnd x.2.2.2.2.2
def BoOk (l : List Bo) : Prop := ∀ x ∈ l, boB x
def boT (a z m p : Int) : Bool := timB a z && (inB m 0 a && inB p 0 100)
def boErr (b : ByteArray) : List Bo → Int
  | [] => 0
  | x :: r => if keyB x.1 = false then 5 else if keyB x.2.1 = false then 5 else if leB x.1 b = true then 7 else if boT x.2.2.1 x.2.2.2.1 x.2.2.2.2.1 x.2.2.2.2.2 = false then 1 else boErr x.1 r
def boE (l : List Bo) : Int := if 500 < l.length then 2 else boErr ⟨#[]⟩ l
def BoRel (w : World) (l : List Bo) (v i : Value) (wr : World) : Prop :=
  ∃ (k : Nat) (b : ByteArray), k ≤ l.length ∧ i = .int .i64 k ∧ v = .string b ∧ boErr ⟨#[]⟩ l = boErr b (l.drop k) ∧ G w wr none
theorem boRow {W w : World} {bb bo n cap : Nat} {l : List Bo} (h : RdR W 6 boC (.slice (some ⟨bb, bo, none⟩) n cap) l) (hG : G W w none) {k : Nat} {p : Bo} (hp : l[k]? = some p) :
    ∀ j v, (boC p).toList[j]? = some v → w.cell? ((⟨bb, bo + k * 6, none⟩ : Addr).add j) = some v := fun j v hv => by
  rw [add_at]
  exact RdR.cell boC_sz h hG hp j v hv
theorem boTime {w : World} {g : Nat} {T : TypeId} {p : Bo} (h : Bk w g T (boC p)) : ∀ j v, (#[Value.int .i64 p.2.2.1, .int .i64 p.2.2.2.1] : Array Value).toList[j]? = some v → w.cell? ((⟨g, 2, none⟩ : Addr).add j) = some v := fun j v hv => by
  rw [add_at, h.cell]
  match j, hv with
  | 0, hv => exact hv
  | 1, hv => exact hv
  | n + 2, hv => simp at hv
set_option maxRecDepth 100000 in
set_option maxHeartbeats 4000000 in
theorem checkForm_c (v : Value) (l : List Bo) (w : World) (hr : RdR w 6 boC v l) (hl : BoOk l) (hn : l.length ≤ 1000) :
    Calls Tryd.prog 81 #[v] w fun e w' => e = .returned (.int .i64 (boE l)) ∧ G w w' none := by
  have HR := Lib.hid hr
  obtain ⟨a, cap, rfl, hcap, hm⟩ := RdR.form hr
  clear hr
  by_cases h30 : 500 < l.length
  · have H := Lib.hid (show boE l = 2 by simp [boE, h30])
    go_enter Tryd.func81, Tryd.ntmps81
    go_wp2_with fail
    go_ret
    exact ⟨by rw [H.out]; rfl, G.refl _ _⟩
  · have H := Lib.hid (show boE l = boErr ⟨#[]⟩ l by simp [boE, h30])
    go_enter Tryd.func81, Tryd.ntmps81
    go_wp2_with fail
    go_loopw [3, 11] (BoRel w l) (fun _ i _ => l.length - (intOf i).toNat)
    case atStart => exact ⟨0, ⟨#[]⟩, by omega, rfl, rfl, rfl, G.refl _ _⟩
    case round =>
      obtain ⟨k, b, hkl, rfl, rfl, heq, hG⟩ := hrel
      have HE := Lib.hid heq
      clear heq
      by_cases hk : k < l.length
      · obtain ⟨p, hp⟩ : ∃ p, l[k]? = some p := ⟨_, List.getElem?_eq_getElem hk⟩
        have hdrop : l.drop k = p :: l.drop (k + 1) := by rw [List.drop_eq_getElem_cons hk, ← (List.getElem?_eq_some_iff.1 hp).2]
        have hpl := hl p (List.mem_of_getElem? hp)
        obtain ⟨bb, bo, rfl, hbb, _⟩ := RdR.elem boC_sz HR.out hG hp
        have HW := Lib.hid (boRow HR.out hG hp)
        have hs1 := hpl.1
        have hs2 := hpl.2.1
        unfold Small at hs1 hs2
        have HS : Hid (boErr b (l.drop k) = if keyB p.1 = false then 5 else if keyB p.2.1 = false then 5 else if leB p.1 b = true then 7 else if boT p.2.2.1 p.2.2.2.1 p.2.2.2.2.1 p.2.2.2.2.2 = false then 1 else boErr p.1 (l.drop (k + 1))) := Lib.hid (by rw [hdrop]; rfl)
        have hB5 := Bk.new wr 31 (boC p)
        have hG5 := hG.alloc (.cells (boC p) 31)
        clear hdrop hp hpl hG
        go_wp2_with (refine wpList_load_at rfl 31 _ rfl ⟨bb, bo + k * 6, none⟩ rfl #[.string p.1, .string p.2.1, .int .i64 p.2.2.1, .int .i64 p.2.2.2.1, .int .i64 p.2.2.2.2.1, .int .i64 p.2.2.2.2.2] _ HW.out Tryd.underlying31 rfl (bo_info p) ?_)
        have hB5 : Bk (wr.alloc (.cells #[.string p.1, .string p.2.1, .int .i64 p.2.2.1, .int .i64 p.2.2.2.1, .int .i64 p.2.2.2.2.1, .int .i64 p.2.2.2.2.2] 31)) wr.heap.size 31 (boC p) := hB5
        have hG5 : G w (wr.alloc (.cells #[.string p.1, .string p.2.1, .int .i64 p.2.2.1, .int .i64 p.2.2.2.1, .int .i64 p.2.2.2.2.1, .int .i64 p.2.2.2.2.2] 31)) none := hG5
        have hg5 := hB5.lt
        generalize wr.alloc (.cells #[.string p.1, .string p.2.1, .int .i64 p.2.2.1, .int .i64 p.2.2.2.1, .int .i64 p.2.2.2.2.1, .int .i64 p.2.2.2.2.2] 31) = w5 at hB5 hG5 hg5 ⊢
        generalize wr.heap.size = g at hB5 hg5 ⊢
        refine (isKey_c _ _ hs1).mono ?_; rintro e w1 ⟨rfl, rfl⟩
        have c0 : World.cell? w5 ⟨g, 0, none⟩ = some (.string p.1) := hB5.cell 0
        have c1 : World.cell? w5 ⟨g, 1, none⟩ = some (.string p.2.1) := hB5.cell 1
        have c2 : World.cell? w5 ⟨g, 2, none⟩ = some (.int .i64 p.2.2.1) := hB5.cell 2
        have c3 : World.cell? w5 ⟨g, 3, none⟩ = some (.int .i64 p.2.2.2.1) := hB5.cell 3
        have c4 : World.cell? w5 ⟨g, 4, none⟩ = some (.int .i64 p.2.2.2.2.1) := hB5.cell 4
        have c5 : World.cell? w5 ⟨g, 5, none⟩ = some (.int .i64 p.2.2.2.2.2) := hB5.cell 5
        cases hkb : keyB p.1 with
        | false =>
          have HF : Hid (boE l = 5) := Lib.hid (by rw [H.out, HE.out, HS.out, if_pos hkb])
          clear hkb
          go_wp2_with fail
          go_ret
          exact ⟨by rw [HF.out]; rfl, hG5⟩
        | true =>
          have HK := Lib.hid hkb
          clear hkb
          go_wp2_with fail
          refine (isKey_c _ _ hs2).mono ?_; rintro e w1 ⟨rfl, rfl⟩
          cases hkb : keyB p.2.1 with
          | false =>
            have HF : Hid (boE l = 5) := Lib.hid (by rw [H.out, HE.out, HS.out, if_neg (by simp [HK.out]), if_pos hkb])
            clear hkb
            go_wp2_with fail
            go_ret
            exact ⟨by rw [HF.out]; rfl, hG5⟩
          | true =>
            have HK2 := Lib.hid hkb
            clear hkb
            cases hle : leB p.1 b with
            | true =>
              have HF : Hid (boE l = 7) := Lib.hid (by rw [H.out, HE.out, HS.out, if_neg (by simp [HK.out]), if_neg (by simp [HK2.out]), if_pos hle])
              unfold leB at hle
              go_wp2_with fail
              go_ret
              exact ⟨by rw [HF.out]; rfl, hG5⟩
            | false =>
              have HS2 : Hid (boErr ⟨#[]⟩ l = if boT p.2.2.1 p.2.2.2.1 p.2.2.2.2.1 p.2.2.2.2.2 = false then 1 else boErr p.1 (l.drop (k + 1))) := Lib.hid (by rw [HE.out, HS.out, if_neg (by simp [HK.out]), if_neg (by simp [HK2.out]), if_neg (by simp [hle])])
              unfold leB at hle
              clear HS HE
              have HT := Lib.hid (boTime hB5)
              go_wp2_with (refine wpList_load_at rfl 29 _ rfl ⟨g, 2, none⟩ rfl #[.int .i64 p.2.2.1, .int .i64 p.2.2.2.1] _ HT.out Tryd.underlying29 rfl (wi_info _ _) ?_)
              refine (isTime_c _ _ _).mono ?_; rintro e w2 ⟨rfl, hG2⟩
              have hB5 := hB5.quiet hG2
              have hG5 := hG5.trans hG2
              clear hG2 HT c0 c1 c2 c3 c4 c5
              have c0 : w2.cell? ⟨g, 0, none⟩ = some (.string p.1) := hB5.cell 0
              have c1 : w2.cell? ⟨g, 1, none⟩ = some (.string p.2.1) := hB5.cell 1
              have c2 : w2.cell? ⟨g, 2, none⟩ = some (.int .i64 p.2.2.1) := hB5.cell 2
              have c3 : w2.cell? ⟨g, 3, none⟩ = some (.int .i64 p.2.2.2.1) := hB5.cell 3
              have c4 : w2.cell? ⟨g, 4, none⟩ = some (.int .i64 p.2.2.2.2.1) := hB5.cell 4
              have c5 : w2.cell? ⟨g, 5, none⟩ = some (.int .i64 p.2.2.2.2.2) := hB5.cell 5
              cases ht : timB p.2.2.1 p.2.2.2.1 with
              | false =>
                have HF : Hid (boE l = 1) := Lib.hid (by rw [H.out, HS2.out, if_pos (by simp [boT, ht])])
                go_wp2_with fail
                go_ret
                exact ⟨by rw [HF.out]; rfl, hG5⟩
              | true =>
                have HTB := Lib.hid ht
                clear ht
                go_wp2_with fail
                refine (within_c _ _ _ _).mono ?_; rintro e w' ⟨rfl, rfl⟩
                cases hm1 : inB p.2.2.2.2.1 0 p.2.2.1 with
                | false =>
                  have HF : Hid (boE l = 1) := Lib.hid (by rw [H.out, HS2.out, if_pos (by simp [boT, hm1])])
                  go_wp2_with fail
                  go_ret
                  exact ⟨by rw [HF.out]; rfl, hG5⟩
                | true =>
                  have HM := Lib.hid hm1
                  clear hm1
                  go_wp2_with fail
                  refine (within_c _ _ _ _).mono ?_; rintro e w' ⟨rfl, rfl⟩
                  cases hp1 : inB p.2.2.2.2.2 0 100 with
                  | false =>
                    have HF : Hid (boE l = 1) := Lib.hid (by rw [H.out, HS2.out, if_pos (by simp [boT, hp1])])
                    go_wp2_with fail
                    go_ret
                    exact ⟨by rw [HF.out]; rfl, hG5⟩
                  | true =>
                    have HF : Hid (boErr ⟨#[]⟩ l = boErr p.1 (l.drop (k + 1))) := Lib.hid (by rw [HS2.out, if_neg (by simp [boT, HTB.out, HM.out, hp1])])
                    clear hp1
                    go_wp2_with fail
                    go_roundw
                    case rel => exact ⟨k + 1, p.1, by omega, by go_num, rfl, HF.out, hG5⟩
                    case measure => simp [intOf]; omega
      · obtain rfl : k = l.length := by omega
        have HE2 : Hid (boE l = 0) := Lib.hid (by rw [H.out, HE.out, List.drop_length]; rfl)
        go_wp2_with fail
        go_ret
        exact ⟨by rw [HE2.out]; rfl, hG⟩
set_option maxRecDepth 100000 in
set_option maxHeartbeats 4000000 in
theorem bookingForm_c (v : Value) (l : List Bo) (w : World) (hr : RdR w 6 boC v l) (hl : BoOk l) (hn : l.length ≤ 1000) :
    Calls Tryd.prog 19 #[v] w fun e w' => e = .returned (.int .i64 (boE l)) ∧ G w w' none := by
  have HR := Lib.hid hr
  obtain ⟨a, cap, rfl, hcap, hm⟩ := RdR.form hr
  clear hr
  by_cases h30 : 500 < l.length
  · have H := Lib.hid (show boE l = 2 by simp [boE, h30])
    go_enter Tryd.func19, Tryd.ntmps19
    go_wp2_with fail
    go_ret
    exact ⟨by rw [H.out]; rfl, G.refl _ _⟩
  · have H := Lib.hid (show boE l = boErr ⟨#[]⟩ l by simp [boE, h30])
    go_enter Tryd.func19, Tryd.ntmps19
    go_wp2_with fail
    go_loopw [3, 11] (BoRel w l) (fun _ i _ => l.length - (intOf i).toNat)
    case atStart => exact ⟨0, ⟨#[]⟩, by omega, rfl, rfl, rfl, G.refl _ _⟩
    case round =>
      obtain ⟨k, b, hkl, rfl, rfl, heq, hG⟩ := hrel
      have HE := Lib.hid heq
      clear heq
      by_cases hk : k < l.length
      · obtain ⟨p, hp⟩ : ∃ p, l[k]? = some p := ⟨_, List.getElem?_eq_getElem hk⟩
        have hdrop : l.drop k = p :: l.drop (k + 1) := by rw [List.drop_eq_getElem_cons hk, ← (List.getElem?_eq_some_iff.1 hp).2]
        have hpl := hl p (List.mem_of_getElem? hp)
        obtain ⟨bb, bo, rfl, hbb, _⟩ := RdR.elem boC_sz HR.out hG hp
        have HW := Lib.hid (boRow HR.out hG hp)
        have hs1 := hpl.1
        have hs2 := hpl.2.1
        unfold Small at hs1 hs2
        have HS : Hid (boErr b (l.drop k) = if keyB p.1 = false then 5 else if keyB p.2.1 = false then 5 else if leB p.1 b = true then 7 else if boT p.2.2.1 p.2.2.2.1 p.2.2.2.2.1 p.2.2.2.2.2 = false then 1 else boErr p.1 (l.drop (k + 1))) := Lib.hid (by rw [hdrop]; rfl)
        have hB5 := Bk.new wr 31 (boC p)
        have hG5 := hG.alloc (.cells (boC p) 31)
        clear hdrop hp hpl hG
        go_wp2_with (refine wpList_load_at rfl 31 _ rfl ⟨bb, bo + k * 6, none⟩ rfl #[.string p.1, .string p.2.1, .int .i64 p.2.2.1, .int .i64 p.2.2.2.1, .int .i64 p.2.2.2.2.1, .int .i64 p.2.2.2.2.2] _ HW.out Tryd.underlying31 rfl (bo_info p) ?_)
        have hB5 : Bk (wr.alloc (.cells #[.string p.1, .string p.2.1, .int .i64 p.2.2.1, .int .i64 p.2.2.2.1, .int .i64 p.2.2.2.2.1, .int .i64 p.2.2.2.2.2] 31)) wr.heap.size 31 (boC p) := hB5
        have hG5 : G w (wr.alloc (.cells #[.string p.1, .string p.2.1, .int .i64 p.2.2.1, .int .i64 p.2.2.2.1, .int .i64 p.2.2.2.2.1, .int .i64 p.2.2.2.2.2] 31)) none := hG5
        have hg5 := hB5.lt
        generalize wr.alloc (.cells #[.string p.1, .string p.2.1, .int .i64 p.2.2.1, .int .i64 p.2.2.2.1, .int .i64 p.2.2.2.2.1, .int .i64 p.2.2.2.2.2] 31) = w5 at hB5 hG5 hg5 ⊢
        generalize wr.heap.size = g at hB5 hg5 ⊢
        refine (rkey_c _ _ hs1).mono ?_; rintro e w1 ⟨rfl, hG1⟩
        have hB5 := hB5.quiet hG1
        have hG5 := hG5.trans hG1
        clear hG1
        have c0 : World.cell? w1 ⟨g, 0, none⟩ = some (.string p.1) := hB5.cell 0
        have c1 : World.cell? w1 ⟨g, 1, none⟩ = some (.string p.2.1) := hB5.cell 1
        have c2 : World.cell? w1 ⟨g, 2, none⟩ = some (.int .i64 p.2.2.1) := hB5.cell 2
        have c3 : World.cell? w1 ⟨g, 3, none⟩ = some (.int .i64 p.2.2.2.1) := hB5.cell 3
        have c4 : World.cell? w1 ⟨g, 4, none⟩ = some (.int .i64 p.2.2.2.2.1) := hB5.cell 4
        have c5 : World.cell? w1 ⟨g, 5, none⟩ = some (.int .i64 p.2.2.2.2.2) := hB5.cell 5
        cases hkb : keyB p.1 with
        | false =>
          have HF : Hid (boE l = 5) := Lib.hid (by rw [H.out, HE.out, HS.out, if_pos hkb])
          clear hkb
          go_wp2_with fail
          go_ret
          exact ⟨by rw [HF.out]; rfl, hG5⟩
        | true =>
          have HK := Lib.hid hkb
          clear hkb
          go_wp2_with fail
          refine (rkey_c _ _ hs2).mono ?_; rintro e w1 ⟨rfl, hG1⟩
          have hB5 := hB5.quiet hG1
          have hG5 := hG5.trans hG1
          clear hG1
          clear c0 c1 c2 c3 c4 c5
          have c0 : w1.cell? ⟨g, 0, none⟩ = some (.string p.1) := hB5.cell 0
          have c1 : w1.cell? ⟨g, 1, none⟩ = some (.string p.2.1) := hB5.cell 1
          have c2 : w1.cell? ⟨g, 2, none⟩ = some (.int .i64 p.2.2.1) := hB5.cell 2
          have c3 : w1.cell? ⟨g, 3, none⟩ = some (.int .i64 p.2.2.2.1) := hB5.cell 3
          have c4 : w1.cell? ⟨g, 4, none⟩ = some (.int .i64 p.2.2.2.2.1) := hB5.cell 4
          have c5 : w1.cell? ⟨g, 5, none⟩ = some (.int .i64 p.2.2.2.2.2) := hB5.cell 5
          cases hkb : keyB p.2.1 with
          | false =>
            have HF : Hid (boE l = 5) := Lib.hid (by rw [H.out, HE.out, HS.out, if_neg (by simp [HK.out]), if_pos hkb])
            clear hkb
            go_wp2_with fail
            go_ret
            exact ⟨by rw [HF.out]; rfl, hG5⟩
          | true =>
            have HK2 := Lib.hid hkb
            clear hkb
            cases hle : leB p.1 b with
            | true =>
              have HF : Hid (boE l = 7) := Lib.hid (by rw [H.out, HE.out, HS.out, if_neg (by simp [HK.out]), if_neg (by simp [HK2.out]), if_pos hle])
              unfold leB at hle
              go_wp2_with fail
              go_ret
              exact ⟨by rw [HF.out]; rfl, hG5⟩
            | false =>
              have HS2 : Hid (boErr ⟨#[]⟩ l = if boT p.2.2.1 p.2.2.2.1 p.2.2.2.2.1 p.2.2.2.2.2 = false then 1 else boErr p.1 (l.drop (k + 1))) := Lib.hid (by rw [HE.out, HS.out, if_neg (by simp [HK.out]), if_neg (by simp [HK2.out]), if_neg (by simp [hle])])
              unfold leB at hle
              clear HS HE
              rcases (show p.2.2.1 < 0 ∨ (0 ≤ p.2.2.1 ∧ p.2.2.2.1 ≤ p.2.2.1) ∨ (0 ≤ p.2.2.1 ∧ p.2.2.1 < p.2.2.2.1 ∧ 5761439 < p.2.2.2.1) ∨ (0 ≤ p.2.2.1 ∧ p.2.2.1 < p.2.2.2.1 ∧ p.2.2.2.1 ≤ 5761439) by omega) with t1 | ⟨t1, t2⟩ | ⟨t1, t2, t3⟩ | ⟨t1, t2, t3⟩
              · have HF : Hid (boE l = 1) := Lib.hid (by rw [H.out, HS2.out, if_pos (by rw [boT, timB_no (by omega)]; rfl)])
                go_wp2_with fail
                go_ret
                exact ⟨by rw [HF.out]; rfl, hG5⟩
              · have HF : Hid (boE l = 1) := Lib.hid (by rw [H.out, HS2.out, if_pos (by rw [boT, timB_no (by omega)]; rfl)])
                go_wp2_with fail
                go_ret
                exact ⟨by rw [HF.out]; rfl, hG5⟩
              · have HF : Hid (boE l = 1) := Lib.hid (by rw [H.out, HS2.out, if_pos (by rw [boT, timB_no (by omega)]; rfl)])
                go_wp2_with fail
                go_ret
                exact ⟨by rw [HF.out]; rfl, hG5⟩
              · have HTB := Lib.hid (timB_yes ⟨t1, t2, show p.2.2.2.1 < 5761440 by omega⟩)
                go_wp2_with fail
                refine (in_c _ _ _ _).mono ?_; rintro e w' ⟨rfl, rfl⟩
                cases hm1 : inB p.2.2.2.2.1 0 p.2.2.1 with
                | false =>
                  have HF : Hid (boE l = 1) := Lib.hid (by rw [H.out, HS2.out, if_pos (by simp [boT, hm1])])
                  go_wp2_with fail
                  go_ret
                  exact ⟨by rw [HF.out]; rfl, hG5⟩
                | true =>
                  have HM := Lib.hid hm1
                  clear hm1
                  go_wp2_with fail
                  refine (in_c _ _ _ _).mono ?_; rintro e w' ⟨rfl, rfl⟩
                  cases hp1 : inB p.2.2.2.2.2 0 100 with
                  | false =>
                    have HF : Hid (boE l = 1) := Lib.hid (by rw [H.out, HS2.out, if_pos (by simp [boT, hp1])])
                    go_wp2_with fail
                    go_ret
                    exact ⟨by rw [HF.out]; rfl, hG5⟩
                  | true =>
                    have HF : Hid (boErr ⟨#[]⟩ l = boErr p.1 (l.drop (k + 1))) := Lib.hid (by rw [HS2.out, if_neg (by simp [boT, HTB.out, HM.out, hp1])])
                    clear hp1
                    go_wp2_with fail
                    go_roundw
                    case rel => exact ⟨k + 1, p.1, by omega, by go_num, rfl, HF.out, hG5⟩
                    case measure => simp [intOf]; omega
      · obtain rfl : k = l.length := by omega
        have HE2 : Hid (boE l = 0) := Lib.hid (by rw [H.out, HE.out, List.drop_length]; rfl)
        go_wp2_with fail
        go_ret
        exact ⟨by rw [HE2.out]; rfl, hG⟩
end Go.Proofs.YtndeidcddlmhbaaDoor

/- Extras: CheckExtras, its reference, ExtraCost, its reference. -/
namespace Go.Proofs.YtndeidcddlmhbaaDoor
open Go.RowKit

/-- An extra: its key, Once, Day, Most. -/
abbrev Ext := ByteArray × Int × Int × Int
def exC (x : Ext) : Array Value := #[.string x.1, .int .i64 x.2.1, .int .i64 x.2.2.1, .int .i64 x.2.2.2]
theorem exC_sz (x : Ext) : (exC x).size = 4 := rfl
def ExOk (l : List Ext) : Prop := ∀ x ∈ l, Small x.1 ∧ bnd x.2.1 ∧ bnd x.2.2.1 ∧ bnd x.2.2.2
def exBad (x : Ext) : Bool := !inB x.2.1 0 1000000 || (!inB x.2.2.1 0 1000000 || !inB x.2.2.2 (-1) 1000000)
def exErr (b : ByteArray) : List Ext → Int
  | [] => 0
  | x :: r => if keyB x.1 = false then 5 else if leB x.1 b = true then 7 else if exBad x = true then 1 else exErr x.1 r
def exE (l : List Ext) : Int := if 30 < l.length then 2 else exErr ⟨#[]⟩ l
def ExRel (w : World) (l : List Ext) (v i : Value) (wr : World) : Prop :=
  ∃ (k : Nat) (b : ByteArray), k ≤ l.length ∧ i = .int .i64 k ∧ v = .string b ∧ exErr ⟨#[]⟩ l = exErr b (l.drop k) ∧ G w wr none
end Go.Proofs.YtndeidcddlmhbaaDoor

/- Fees: CheckFees, its reference. -/
namespace Go.Proofs.YtndeidcddlmhbaaDoor
open Go.RowKit

/-- A fee: from, to, cents. -/
abbrev Fe := ByteArray × ByteArray × Int
def feC (x : Fe) : Array Value := #[.string x.1, .string x.2.1, .int .i64 x.2.2]
theorem feC_sz (x : Fe) : (feC x).size = 3 := rfl
def FeOk (l : List Fe) : Prop := ∀ x ∈ l, Small x.1 ∧ Small x.2.1 ∧ bnd x.2.2
/-- The first that is not 0. -/
def orI (x y : Int) : Int := if x = 0 then y else x
def cmpF (x y : Fe) : Int := orI (cmpI x.1 y.1) (cmpI x.2.1 y.2.1)
set_option maxRecDepth 100000 in
set_option maxHeartbeats 1000000 in
theorem or2_c (x y : Int) (g : Nat) (w : World) (hB : Bk w g 3 #[.int .i64 x, .int .i64 y]) :
    Calls Tryd.prog 140 #[.slice (some ⟨g, 0, none⟩) 2 2] w fun e w' => e = .returned (.int .i64 (orI x y)) ∧ w = w' := by
  have hc0 := hB.cell 0
  have hc1 := hB.cell 1
  rw [show (#[Value.int .i64 x, .int .i64 y] : Array Value)[0]? = some (.int .i64 x) from rfl] at hc0
  rw [show (#[Value.int .i64 x, .int .i64 y] : Array Value)[1]? = some (.int .i64 y) from rfl] at hc1
  clear hB
  by_cases hx : x = 0
  · rw [orI, if_pos hx]
    subst hx
    by_cases hy : y = 0
    · subst hy
      go_enter Tryd.func140, Tryd.ntmps140
      go_wp2_with fail
      refine wp_loop_rounds 3 ?_
      rw [rounds_succ]
      go_wp2_with fail
      rw [rounds_succ]
      go_wp2_with fail
      rw [rounds_succ]
      go_wp2_with fail
      go_ret
      exact ⟨rfl, rfl⟩
    · have hy' : (y != 0) = true := by rw [bne_iff_ne]; exact hy
      clear hy
      go_enter Tryd.func140, Tryd.ntmps140
      go_wp2_with fail
      refine wp_loop_rounds 3 ?_
      rw [rounds_succ]
      go_wp2_with fail
      rw [rounds_succ]
      go_wp2_with fail
      go_ret
      exact ⟨rfl, rfl⟩
  · rw [orI, if_neg hx]
    have hx' : (x != 0) = true := by rw [bne_iff_ne]; exact hx
    clear hx
    go_enter Tryd.func140, Tryd.ntmps140
    go_wp2_with fail
    refine wp_loop_rounds 3 ?_
    rw [rounds_succ]
    go_wp2_with fail
    go_ret
    exact ⟨rfl, rfl⟩
def feAfter (b : Option Fe) (x : Fe) : Bool := match b with | none => false | some y => decide (0 ≤ cmpF y x)
def feErr : Option Fe → List Fe → Int
  | _, [] => 0
  | b, x :: r => if keyB x.1 = false then 5 else if keyB x.2.1 = false then 5 else if eqB x.1 x.2.1 = true then 14 else if feAfter b x = true then 7 else if inB x.2.2 0 1000000 = false then 1 else feErr (some x) r
def feE (l : List Fe) : Int := if 500 < l.length then 2 else feErr none l
def prevAt {α : Type} (l : List α) (k : Nat) : Option α := if k = 0 then none else l[k - 1]?
theorem prevAt_succ {α : Type} (l : List α) (k : Nat) (p : α) (h : l[k]? = some p) : prevAt l (k + 1) = some p := by
  unfold prevAt
  rw [if_neg (by omega), Nat.add_sub_cancel, h]
def FeRel (w : World) (l : List Fe) (i : Value) (wr : World) : Prop :=
  ∃ k : Nat, k ≤ l.length ∧ i = .int .i64 k ∧ feErr none l = feErr (prevAt l k) (l.drop k) ∧ G w wr none
end Go.Proofs.YtndeidcddlmhbaaDoor

/- Tiers: CheckTiers; the reference's TiersFault. -/
namespace Go.Proofs.YtndeidcddlmhbaaDoor
open Go.RowKit

/-- A tier: before, permille. -/
abbrev Ti := Int × Int
def tiC (x : Ti) : Array Value := #[.int .i64 x.1, .int .i64 x.2]
theorem tiC_sz (x : Ti) : (tiC x).size = 2 := rfl
theorem ti_info (x : Ti) : (Tryd.prog.info? 122).map (·.size) = some (tiC x).size := (by kernel_rfl : (Tryd.prog.info? 122).map (·.size) = some 2)
def TiOk (l : List Ti) : Prop := ∀ x ∈ l, bnd x.1 ∧ bnd x.2
def tiAfter (b : Option Ti) (x : Ti) : Bool := match b with | none => false | some y => decide (y.1 ≤ x.1) || decide (x.2 < y.2)
def tiErr : Option Ti → List Ti → Int
  | _, [] => 0
  | b, x :: r => if inB x.1 1 5761440 = false then 1 else if inB x.2 0 1000 = false then 1 else if tiAfter b x = true then 7 else tiErr (some x) r
def tiE (l : List Ti) : Int := if 10 < l.length then 2 else tiErr none l
def TiRel (w : World) (l : List Ti) (i : Value) (wr : World) : Prop :=
  ∃ k : Nat, k ≤ l.length ∧ i = .int .i64 k ∧ tiErr none l = tiErr (prevAt l k) (l.drop k) ∧ G w wr none
theorem tiRow {W w : World} {bb bo n cap : Nat} {l : List Ti} (h : RdR W 2 tiC (.slice (some ⟨bb, bo, none⟩) n cap) l) (hG : G W w none) {k : Nat} {p : Ti} (hp : l[k]? = some p) :
    ∀ j v, (tiC p).toList[j]? = some v → w.cell? ((⟨bb, bo + k * 2, none⟩ : Addr).add j) = some v := fun j v hv => by
  rw [add_at]
  exact RdR.cell tiC_sz h hG hp j v hv
set_option maxRecDepth 100000 in
set_option maxHeartbeats 4000000 in
theorem checkTiers_c (v : Value) (l : List Ti) (w : World) (hr : RdR w 2 tiC v l) (hn : l.length ≤ 1000) :
    Calls Tryd.prog 17 #[v] w fun e w' => e = .returned (.int .i64 (tiE l)) ∧ G w w' none := by
  have HR := Lib.hid hr
  obtain ⟨a, cap, rfl, hcap, hm⟩ := RdR.form hr
  clear hr
  by_cases h30 : 10 < l.length
  · have H := Lib.hid (show tiE l = 2 by simp [tiE, h30])
    go_enter Tryd.func17, Tryd.ntmps17
    go_wp2_with fail
    go_ret
    exact ⟨by rw [H.out]; rfl, G.refl _ _⟩
  · have H := Lib.hid (show tiE l = tiErr none l by simp [tiE, h30])
    go_enter Tryd.func17, Tryd.ntmps17
    go_wp2_with fail
    go_loopw [10] (TiRel w l) (fun i _ => l.length - (intOf i).toNat)
    case atStart => exact ⟨0, by omega, rfl, rfl, G.refl _ _⟩
    case round =>
      obtain ⟨k, hkl, rfl, heq, hG⟩ := hrel
      have HE := Lib.hid heq
      clear heq
      by_cases hk : k < l.length
      · obtain ⟨p, hp⟩ : ∃ p, l[k]? = some p := ⟨_, List.getElem?_eq_getElem hk⟩
        have hdrop : l.drop k = p :: l.drop (k + 1) := by rw [List.drop_eq_getElem_cons hk, ← (List.getElem?_eq_some_iff.1 hp).2]
        obtain ⟨bb, bo, rfl, hbb, _⟩ := RdR.elem tiC_sz HR.out hG hp
        have HW := Lib.hid (tiRow HR.out hG hp)
        have HP := Lib.hid hp
        have HS : Hid (tiErr (prevAt l k) (l.drop k) = if inB p.1 1 5761440 = false then 1 else if inB p.2 0 1000 = false then 1 else if tiAfter (prevAt l k) p = true then 7 else tiErr (some p) (l.drop (k + 1))) := Lib.hid (by rw [hdrop]; rfl)
        have hB5 := Bk.new wr 122 (tiC p)
        have hG5 := hG.alloc (.cells (tiC p) 122)
        clear hdrop hp hG
        go_wp2_with (refine wpList_load_at rfl 122 _ rfl ⟨bb, bo + k * 2, none⟩ rfl #[.int .i64 p.1, .int .i64 p.2] _ HW.out Tryd.underlying122 rfl (ti_info p) ?_)
        have hB5 : Bk (wr.alloc (.cells #[.int .i64 p.1, .int .i64 p.2] 122)) wr.heap.size 122 (tiC p) := hB5
        have hG5 : G w (wr.alloc (.cells #[.int .i64 p.1, .int .i64 p.2] 122)) none := hG5
        clear HW
        have hg5 := hB5.lt
        generalize wr.alloc (.cells #[.int .i64 p.1, .int .i64 p.2] 122) = w5 at hB5 hG5 hg5 ⊢
        generalize wr.heap.size = g at hB5 hg5 ⊢
        have c0 : w5.cell? ⟨g, 0, none⟩ = some (.int .i64 p.1) := hB5.cell 0
        have c1 : w5.cell? ⟨g, 1, none⟩ = some (.int .i64 p.2) := hB5.cell 1
        refine (within_c _ _ _ _).mono ?_; rintro e w' ⟨rfl, rfl⟩
        cases h1 : inB p.1 1 5761440 with
        | false =>
          have HF : Hid (tiE l = 1) := Lib.hid (by rw [H.out, HE.out, HS.out, if_pos h1])
          go_wp2_with fail
          go_ret
          exact ⟨by rw [HF.out]; rfl, hG5⟩
        | true =>
          have H1 := Lib.hid h1
          clear h1
          go_wp2_with fail
          refine (within_c _ _ _ _).mono ?_; rintro e w' ⟨rfl, rfl⟩
          cases h2 : inB p.2 0 1000 with
          | false =>
            have HF : Hid (tiE l = 1) := Lib.hid (by rw [H.out, HE.out, HS.out, if_neg (by simp [H1.out]), if_pos h2])
            go_wp2_with fail
            go_ret
            exact ⟨by rw [HF.out]; rfl, hG5⟩
          | true =>
            have HS2 : Hid (tiErr none l = if tiAfter (prevAt l k) p = true then 7 else tiErr (some p) (l.drop (k + 1))) := Lib.hid (by rw [HE.out, HS.out, if_neg (by simp [H1.out]), if_neg (by simp [h2])])
            clear h2 HS HE
            go_wp2_with fail
            cases k with
            | zero =>
              have HF : Hid (tiErr none l = tiErr (prevAt l (0 + 1)) (l.drop (0 + 1))) := Lib.hid (by rw [HS2.out, if_neg (by simp [prevAt, tiAfter]), prevAt_succ l 0 p HP.out])
              clear HS2
              go_quiet (fail)
              have hGq := hG5.drewN nq
              go_wp2_with fail
              go_roundw
              case rel => exact ⟨0 + 1, by omega, by go_num, HF.out, hGq⟩
              case measure => simp [intOf]; omega
            | succ m =>
              obtain ⟨q, hq2⟩ : ∃ q, l[m]? = some q := ⟨_, List.getElem?_eq_getElem (by omega)⟩
              have HA : Hid (tiAfter (prevAt l (m + 1)) p = (decide (q.1 ≤ p.1) || decide (p.2 < q.2))) := Lib.hid (by rw [prevAt_succ l m q hq2]; rfl)
              have hsub : IntKind.i64.wrap (((m + 1 : Nat) : Int) - 1) = (m : Int) := by rw [show ((m + 1 : Nat) : Int) - 1 = (m : Int) by omega]; rw [IntKind.wrap_i64]; omega
              have d0 := RdR.cell tiC_sz HR.out hG5 hq2 0 (.int .i64 q.1) rfl
              have d1 := RdR.cell tiC_sz HR.out hG5 hq2 1 (.int .i64 q.2) rfl
              have hsub2 : IntKind.i64.wrap (m : Int) = (m : Int) := by rw [IntKind.wrap_i64]; omega
              have hsub3 : IntKind.i64.wrap ((m : Int) + 1 - 1) = (m : Int) := by rw [IntKind.wrap_i64]; omega
              have hm0 : (0 : Int) ≤ (m : Int) := Int.natCast_nonneg m
              have hml : (m : Int) < (l.length : Int) := by omega
              simp only [Nat.add_zero] at d0
              clear hq2
              rcases (show q.1 ≤ p.1 ∨ (p.1 < q.1 ∧ p.2 < q.2) ∨ (p.1 < q.1 ∧ q.2 ≤ p.2) by omega) with t1 | ⟨t1, t2⟩ | ⟨t1, t2⟩
              · have HF : Hid (tiE l = 7) := Lib.hid (by rw [H.out, HS2.out, if_pos (by rw [HA.out, decide_eq_true t1]; rfl)])
                go_quiet (fail)
                have hGq := hG5.drewN nq
                go_wp2_with fail
                go_ret
                exact ⟨by rw [HF.out]; rfl, hGq⟩
              · have HF : Hid (tiE l = 7) := Lib.hid (by rw [H.out, HS2.out, if_pos (by rw [HA.out, decide_eq_true t2, Bool.or_true])])
                have hd : decide (q.1 ≤ p.1) = false := decide_eq_false (by omega)
                go_quiet (fail)
                have hGq := hG5.drewN nq
                go_wp2_with fail
                go_ret
                exact ⟨by rw [HF.out]; rfl, hGq⟩
              · have HF : Hid (tiErr none l = tiErr (prevAt l (m + 1 + 1)) (l.drop (m + 1 + 1))) := Lib.hid (by rw [HS2.out, if_neg (by rw [HA.out, decide_eq_false (show ¬ q.1 ≤ p.1 by omega), decide_eq_false (show ¬ p.2 < q.2 by omega)]; decide), prevAt_succ l (m + 1) p HP.out])
                have hd : decide (q.1 ≤ p.1) = false := decide_eq_false (by omega)
                have hd2 : decide (p.2 < q.2) = false := decide_eq_false (by omega)
                go_quiet (fail)
                have hGq := hG5.drewN nq
                go_wp2_with fail
                go_roundw
                case rel => exact ⟨m + 1 + 1, by omega, by go_num, HF.out, hGq⟩
                case measure => simp [intOf]; omega
      · obtain rfl : k = l.length := by omega
        have HE2 : Hid (tiE l = 0) := Lib.hid (by rw [H.out, HE.out, List.drop_length]; rfl)
        go_wp2_with fail
        go_ret
        exact ⟨by rw [HE2.out]; rfl, hG⟩
set_option maxRecDepth 100000 in
set_option maxHeartbeats 4000000 in
theorem tiersFault_c (v : Value) (l : List Ti) (w : World) (hr : RdR w 2 tiC v l) (hn : l.length ≤ 1000) :
    Calls Tryd.prog 16 #[v] w fun e w' => e = .returned (.int .i64 (tiE l)) ∧ G w w' none := by
  have HR := Lib.hid hr
  obtain ⟨a, cap, rfl, hcap, hm⟩ := RdR.form hr
  clear hr
  by_cases h30 : 10 < l.length
  · have H := Lib.hid (show tiE l = 2 by simp [tiE, h30])
    go_enter Tryd.func16, Tryd.ntmps16
    go_wp2_with fail
    go_ret
    exact ⟨by rw [H.out]; rfl, G.refl _ _⟩
  · have H := Lib.hid (show tiE l = tiErr none l by simp [tiE, h30])
    go_enter Tryd.func16, Tryd.ntmps16
    go_wp2_with fail
    go_loopw [10] (TiRel w l) (fun i _ => l.length - (intOf i).toNat)
    case atStart => exact ⟨0, by omega, rfl, rfl, G.refl _ _⟩
    case round =>
      obtain ⟨k, hkl, rfl, heq, hG⟩ := hrel
      have HE := Lib.hid heq
      clear heq
      by_cases hk : k < l.length
      · obtain ⟨p, hp⟩ : ∃ p, l[k]? = some p := ⟨_, List.getElem?_eq_getElem hk⟩
        have hdrop : l.drop k = p :: l.drop (k + 1) := by rw [List.drop_eq_getElem_cons hk, ← (List.getElem?_eq_some_iff.1 hp).2]
        obtain ⟨bb, bo, rfl, hbb, _⟩ := RdR.elem tiC_sz HR.out hG hp
        have HW := Lib.hid (tiRow HR.out hG hp)
        have HP := Lib.hid hp
        have HS : Hid (tiErr (prevAt l k) (l.drop k) = if inB p.1 1 5761440 = false then 1 else if inB p.2 0 1000 = false then 1 else if tiAfter (prevAt l k) p = true then 7 else tiErr (some p) (l.drop (k + 1))) := Lib.hid (by rw [hdrop]; rfl)
        have hB5 := Bk.new wr 122 (tiC p)
        have hG5 := hG.alloc (.cells (tiC p) 122)
        clear hdrop hp hG
        go_wp2_with (refine wpList_load_at rfl 122 _ rfl ⟨bb, bo + k * 2, none⟩ rfl #[.int .i64 p.1, .int .i64 p.2] _ HW.out Tryd.underlying122 rfl (ti_info p) ?_)
        have hB5 : Bk (wr.alloc (.cells #[.int .i64 p.1, .int .i64 p.2] 122)) wr.heap.size 122 (tiC p) := hB5
        have hG5 : G w (wr.alloc (.cells #[.int .i64 p.1, .int .i64 p.2] 122)) none := hG5
        clear HW
        have hg5 := hB5.lt
        generalize wr.alloc (.cells #[.int .i64 p.1, .int .i64 p.2] 122) = w5 at hB5 hG5 hg5 ⊢
        generalize wr.heap.size = g at hB5 hg5 ⊢
        have c0 : w5.cell? ⟨g, 0, none⟩ = some (.int .i64 p.1) := hB5.cell 0
        have c1 : w5.cell? ⟨g, 1, none⟩ = some (.int .i64 p.2) := hB5.cell 1
        refine (in_c _ _ _ _).mono ?_; rintro e w' ⟨rfl, rfl⟩
        cases h1 : inB p.1 1 5761440 with
        | false =>
          have HF : Hid (tiE l = 1) := Lib.hid (by rw [H.out, HE.out, HS.out, if_pos h1])
          go_wp2_with fail
          go_ret
          exact ⟨by rw [HF.out]; rfl, hG5⟩
        | true =>
          have H1 := Lib.hid h1
          clear h1
          go_wp2_with fail
          refine (in_c _ _ _ _).mono ?_; rintro e w' ⟨rfl, rfl⟩
          cases h2 : inB p.2 0 1000 with
          | false =>
            have HF : Hid (tiE l = 1) := Lib.hid (by rw [H.out, HE.out, HS.out, if_neg (by simp [H1.out]), if_pos h2])
            go_wp2_with fail
            go_ret
            exact ⟨by rw [HF.out]; rfl, hG5⟩
          | true =>
            have HS2 : Hid (tiErr none l = if tiAfter (prevAt l k) p = true then 7 else tiErr (some p) (l.drop (k + 1))) := Lib.hid (by rw [HE.out, HS.out, if_neg (by simp [H1.out]), if_neg (by simp [h2])])
            clear h2 HS HE
            go_wp2_with fail
            cases k with
            | zero =>
              have HF : Hid (tiErr none l = tiErr (prevAt l (0 + 1)) (l.drop (0 + 1))) := Lib.hid (by rw [HS2.out, if_neg (by simp [prevAt, tiAfter]), prevAt_succ l 0 p HP.out])
              clear HS2
              go_quiet (fail)
              have hGq := hG5.drewN nq
              go_wp2_with fail
              go_roundw
              case rel => exact ⟨0 + 1, by omega, by go_num, HF.out, hGq⟩
              case measure => simp [intOf]; omega
            | succ m =>
              obtain ⟨q, hq2⟩ : ∃ q, l[m]? = some q := ⟨_, List.getElem?_eq_getElem (by omega)⟩
              have HA : Hid (tiAfter (prevAt l (m + 1)) p = (decide (q.1 ≤ p.1) || decide (p.2 < q.2))) := Lib.hid (by rw [prevAt_succ l m q hq2]; rfl)
              have hsub : IntKind.i64.wrap (((m + 1 : Nat) : Int) - 1) = (m : Int) := by rw [show ((m + 1 : Nat) : Int) - 1 = (m : Int) by omega]; rw [IntKind.wrap_i64]; omega
              have d0 := RdR.cell tiC_sz HR.out hG5 hq2 0 (.int .i64 q.1) rfl
              have d1 := RdR.cell tiC_sz HR.out hG5 hq2 1 (.int .i64 q.2) rfl
              have hsub2 : IntKind.i64.wrap (m : Int) = (m : Int) := by rw [IntKind.wrap_i64]; omega
              have hsub3 : IntKind.i64.wrap ((m : Int) + 1 - 1) = (m : Int) := by rw [IntKind.wrap_i64]; omega
              have hm0 : (0 : Int) ≤ (m : Int) := Int.natCast_nonneg m
              have hml : (m : Int) < (l.length : Int) := by omega
              simp only [Nat.add_zero] at d0
              clear hq2
              rcases (show q.1 ≤ p.1 ∨ (p.1 < q.1 ∧ p.2 < q.2) ∨ (p.1 < q.1 ∧ q.2 ≤ p.2) by omega) with t1 | ⟨t1, t2⟩ | ⟨t1, t2⟩
              · have HF : Hid (tiE l = 7) := Lib.hid (by rw [H.out, HS2.out, if_pos (by rw [HA.out, decide_eq_true t1]; rfl)])
                go_quiet (fail)
                have hGq := hG5.drewN nq
                go_wp2_with fail
                go_ret
                exact ⟨by rw [HF.out]; rfl, hGq⟩
              · have HF : Hid (tiE l = 7) := Lib.hid (by rw [H.out, HS2.out, if_pos (by rw [HA.out, decide_eq_true t2, Bool.or_true])])
                have hd : decide (q.1 ≤ p.1) = false := decide_eq_false (by omega)
                go_quiet (fail)
                have hGq := hG5.drewN nq
                go_wp2_with fail
                go_ret
                exact ⟨by rw [HF.out]; rfl, hGq⟩
              · have HF : Hid (tiErr none l = tiErr (prevAt l (m + 1 + 1)) (l.drop (m + 1 + 1))) := Lib.hid (by rw [HS2.out, if_neg (by rw [HA.out, decide_eq_false (show ¬ q.1 ≤ p.1 by omega), decide_eq_false (show ¬ p.2 < q.2 by omega)]; decide), prevAt_succ l (m + 1) p HP.out])
                have hd : decide (q.1 ≤ p.1) = false := decide_eq_false (by omega)
                have hd2 : decide (p.2 < q.2) = false := decide_eq_false (by omega)
                go_quiet (fail)
                have hGq := hG5.drewN nq
                go_wp2_with fail
                go_roundw
                case rel => exact ⟨m + 1 + 1, by omega, by go_num, HF.out, hGq⟩
                case measure => simp [intOf]; omega
      · obtain rfl : k = l.length := by omega
        have HE2 : Hid (tiE l = 0) := Lib.hid (by rw [H.out, HE.out, List.drop_length]; rfl)
        go_wp2_with fail
        go_ret
        exact ⟨by rw [HE2.out]; rfl, hG⟩
end Go.Proofs.YtndeidcddlmhbaaDoor

/- What was picked; a block as a row; 'when' at literals. -/
namespace Go.Proofs.YtndeidcddlmhbaaDoor
open Go.RowKit

theorem small_of {s : ByteArray} (h : s.size ≤ 100) : Small s := by unfold Small; omega
theorem bnd_pick {zs : List Int} {r : Int} (h : r ∈ zs) (hz : zs.all (fun z => decide (-1099511627776 ≤ z ∧ z ≤ 1099511627776)) = true) : bnd r := by
  unfold bnd
  exact of_decide_eq_true (List.all_eq_true.1 hz r h)
theorem small_pick {zs : List ByteArray} {r : ByteArray} (h : r ∈ zs) (hz : zs.all (fun z => decide (z.size ≤ 100)) = true) : Small r := small_of (of_decide_eq_true (List.all_eq_true.1 hz r h))
theorem Bk.rd {w : World} {g : Nat} {T : TypeId} {cs : Array Value} (h : Bk w g T cs) (z n : Nat) (hc : cs.size = n * z) (hn : n ≤ 1000) : Rd w z (.slice (some ⟨g, 0, none⟩) n n) n cs.toList := by
  refine ⟨_, n, rfl, Nat.le_refl _, by unfold maxLen; omega, by simpa using hc, (fun e => by cases e), fun b hb => ?_⟩
  obtain rfl := Option.some.inj hb
  refine ⟨rfl, h.lt, fun j u hj => ?_⟩
  rw [Nat.zero_add, h.cell]
  simpa using hj
theorem when_t (n : Int) (w : World) : Calls Tryd.prog 20 #[.bool true, .int .i64 n] w fun e w' => e = .returned (.int .i64 n) ∧ w = w' := by simpa using when_c true n w
theorem when_f (n : Int) (w : World) : Calls Tryd.prog 20 #[.bool false, .int .i64 n] w fun e w' => e = .returned (.int .i64 0) ∧ w = w' := by simpa using when_c false n w
end Go.Proofs.YtndeidcddlmhbaaDoor

/- CancelFee; the reference's CancelOf. -/
namespace Go.Proofs.YtndeidcddlmhbaaDoor
open Go.RowKit

/-- The permille of the last tier that is meant. -/
def cnS (d a : Int) (x : Ti) : Int := if d < x.1 then x.2 else a
def cnP (l : List Ti) (d : Int) : Int := l.foldl (cnS d) 0
theorem cnP_succ {l : List Ti} {k : Nat} {p : Ti} (d : Int) (hp : l[k]? = some p) : cnP (l.take (k + 1)) d = cnS d (cnP (l.take k) d) p := by
  have hk : k < l.length := (List.getElem?_eq_some_iff.1 hp).1
  have e : l.take (k + 1) = l.take k ++ [p] := by
    rw [List.take_succ_eq_append_getElem hk, (List.getElem?_eq_some_iff.1 hp).2]
  unfold cnP
  rw [e, List.foldl_append]
  rfl
theorem cnP_rng {l : List Ti} (h : ∀ x ∈ l, 0 ≤ x.2 ∧ x.2 ≤ 1000) (d : Int) : 0 ≤ cnP l d ∧ cnP l d ≤ 1000 := by
  have : ∀ (r : List Ti) (a : Int), (∀ x ∈ r, 0 ≤ x.2 ∧ x.2 ≤ 1000) → 0 ≤ a ∧ a ≤ 1000 → 0 ≤ r.foldl (cnS d) a ∧ r.foldl (cnS d) a ≤ 1000 := by
    intro r
    induction r with
    | nil => intro a _ ha; exact ha
    | cons x r ih =>
      intro a hx ha
      refine ih _ (fun y hy => hx y (List.mem_cons_of_mem _ hy)) ?_
      unfold cnS
      split
      · exact hx x (List.mem_cons_self ..)
      · exact ha
  exact this l 0 h (by omega)
theorem tiErr_ok {l : List Ti} : ∀ {b : Option Ti}, tiErr b l = 0 → ∀ x ∈ l, 0 ≤ x.2 ∧ x.2 ≤ 1000 := by
  induction l with
  | nil => intro b _ x hx; cases hx
  | cons y r ih =>
    intro b h
    unfold tiErr at h
    split at h
    · exact absurd h (by decide)
    · split at h
      · exact absurd h (by decide)
      · rename_i h2
        split at h
        · exact absurd h (by decide)
        · intro x hx
          rcases List.mem_cons.1 hx with rfl | hx
          · simp only [inB, Bool.not_eq_false, Bool.and_eq_true, decide_eq_true_eq] at h2
            omega
          · exact ih h x hx
theorem tiE_ok {l : List Ti} (h : tiE l = 0) : ∀ x ∈ l, 0 ≤ x.2 ∧ x.2 ≤ 1000 := by
  unfold tiE at h
  split at h
  · exact absurd h (by decide)
  · exact tiErr_ok h
theorem boE_ok {b : Bo} (h : boE [b] = 0) : 0 ≤ b.2.2.1 ∧ b.2.2.1 < 5761440 := by
  have h1 : boErr ⟨#[]⟩ [b] = 0 := h
  unfold boErr at h1
  split at h1
  · exact absurd h1 (by decide)
  · split at h1
    · exact absurd h1 (by decide)
    · split at h1
      · exact absurd h1 (by decide)
      · split at h1
        · exact absurd h1 (by decide)
        · rename_i h2
          simp only [boT, Bool.not_eq_false, Bool.and_eq_true] at h2
          have := (timB_iff _ _).1 h2.1
          omega
theorem one_len (b : Bo) : ([b] : List Bo).length ≤ 1000 := by simp
theorem RdR.one {w : World} {g : Nat} {b : Bo} (h : Bk w g 31 (boC b)) : RdR w 6 boC (.slice (some ⟨g, 0, none⟩) 1 1) [b] := h.rd 6 1 rfl (by omega)
theorem BoOk.one {b : Bo} (h : boB b) : BoOk [b] := fun x hx => by
  obtain rfl := List.mem_singleton.1 hx
  exact h
def cfE (l : List Ti) (b : Bo) (c t : Int) : Int := if tiE l = 0 then (if boE [b] = 0 then (if inB c 0 1000000000 = false then 1 else if momB t = false then 1 else 0) else boE [b]) else tiE l
def cfN (l : List Ti) (b : Bo) (c t : Int) : Int := if cfE l b c t = 0 then c * cnP l (b.2.2.1 - t) / 1000 else 0
def CfRel (w : World) (l : List Ti) (d : Int) (g : Nat) (b : Bo) (s i : Value) (wr : World) : Prop :=
  ∃ k : Nat, k ≤ l.length ∧ i = .int .i64 k ∧ s = .int .i64 (cnP (l.take k) d) ∧ Bk wr g 31 (boC b) ∧ G w wr none
set_option maxRecDepth 100000 in
set_option maxHeartbeats 4000000 in
theorem cancelFee_c (v : Value) (l : List Ti) (b : Bo) (c t : Int) (w : World) (hr : RdR w 2 tiC v l) (hn : l.length ≤ 1000) (hb : boB b) :
    Calls Tryd.prog 15 #[v, .agg (boC b), .int .i64 c, .int .i64 t] w fun e w' => e = .returned (.tuple #[.int .i64 (cfN l b c t), .int .i64 (cfE l b c t)]) ∧ G w w' none := by
  have HR := Lib.hid hr
  have HB : Hid (boB b) := Lib.hid hb
  have hB0 := Bk.new w 31 (boC b)
  have hG0 := (G.refl w none).alloc (.cells (boC b) 31)
  obtain ⟨a, cap, rfl, hcap, hm⟩ := RdR.form hr
  clear hr hb
  go_enter Tryd.func15, Tryd.ntmps15
  go_wp2_with fail
  refine (checkTiers_c _ l _ (HR.out.quiet hG0) hn).mono ?_; rintro e w1 ⟨rfl, hG1⟩
  have hB := hB0.quiet hG1
  have hG := hG0.trans hG1
  clear hB0 hG0 hG1
  by_cases h0 : tiE l = 0
  · have HE : Hid (cfE l b c t = if boE [b] = 0 then (if inB c 0 1000000000 = false then 1 else if momB t = false then 1 else 0) else boE [b]) := Lib.hid (by rw [cfE, if_pos h0])
    have HOK := Lib.hid (tiE_ok h0)
    rw [h0]
    clear h0
    go_wp2_with (refine wpList_load_row rfl 31 _ rfl w.heap.size rfl 31 #[.string b.1, .string b.2.1, .int .i64 b.2.2.1, .int .i64 b.2.2.2.1, .int .i64 b.2.2.2.2.1, .int .i64 b.2.2.2.2.2] (0, 0) _ hB Tryd.underlying31 rfl (bo_info b) ?_)
    have hN2 : Bk (w1.alloc (.cells #[.string b.1, .string b.2.1, .int .i64 b.2.2.1, .int .i64 b.2.2.2.1, .int .i64 b.2.2.2.2.1, .int .i64 b.2.2.2.2.2] 31)) w1.heap.size 31 (boC b) := Bk.new w1 31 (boC b)
    have hG2 := hG.alloc (.cells #[.string b.1, .string b.2.1, .int .i64 b.2.2.1, .int .i64 b.2.2.2.1, .int .i64 b.2.2.2.2.1, .int .i64 b.2.2.2.2.2] 31)
    have hB2 := hB.alloc (.cells #[.string b.1, .string b.2.1, .int .i64 b.2.2.1, .int .i64 b.2.2.2.1, .int .i64 b.2.2.2.2.1, .int .i64 b.2.2.2.2.2] 31)
    clear hB hG
    refine (checkForm_c _ [b] _ (RdR.one hN2) (BoOk.one HB.out) (one_len b)).mono ?_; rintro e w3 ⟨rfl, hG3⟩
    have hB := hB2.quiet hG3
    have hG := hG2.trans hG3
    clear hN2 hB2 hG2 hG3
    by_cases h1 : boE [b] = 0
    · have HE2 : Hid (cfE l b c t = if inB c 0 1000000000 = false then 1 else if momB t = false then 1 else 0) := Lib.hid (by rw [HE.out, if_pos h1])
      obtain ⟨a0, a1⟩ := boE_ok h1
      rw [h1]
      clear h1 HE
      go_wp2_with fail
      refine (within_c _ _ _ _).mono ?_; rintro e w' ⟨rfl, rfl⟩
      cases hc : inB c 0 1000000000 with
      | false =>
        have HF : Hid (cfE l b c t = 1) := Lib.hid (by rw [HE2.out, if_pos hc])
        have HN : Hid (cfN l b c t = 0) := Lib.hid (by rw [cfN, if_neg (by rw [HF.out]; decide)])
        go_wp2_with fail
        go_ret2
        exact ⟨by rw [HF.out, HN.out]; rfl, hG⟩
      | true =>
        have HC := Lib.hid hc
        clear hc
        go_wp2_with fail
        refine (isMoment_c _ _).mono ?_; rintro e w' ⟨rfl, rfl⟩
        cases ht : momB t with
        | false =>
          have HF : Hid (cfE l b c t = 1) := Lib.hid (by rw [HE2.out, if_neg (by simp [HC.out]), if_pos ht])
          have HN : Hid (cfN l b c t = 0) := Lib.hid (by rw [cfN, if_neg (by rw [HF.out]; decide)])
          go_wp2_with fail
          go_ret2
          exact ⟨by rw [HF.out, HN.out]; rfl, hG⟩
        | true =>
          have HF : Hid (cfE l b c t = 0) := Lib.hid (by rw [HE2.out, if_neg (by simp [HC.out]), if_neg (by simp [ht])])
          have HN : Hid (cfN l b c t = c * cnP l (b.2.2.1 - t) / 1000) := Lib.hid (by rw [cfN, if_pos HF.out])
          obtain ⟨t0, t1⟩ : 0 ≤ t ∧ t < 5761440 := by simpa [momB] using ht
          obtain ⟨c0, c1⟩ : 0 ≤ c ∧ c ≤ 1000000000 := by simpa [inB] using HC.out
          clear ht HE2
          go_wp2_with fail
          go_loopw [12, 36] (CfRel w l (b.2.2.1 - t) w.heap.size b) (fun _ i _ => l.length - (intOf i).toNat)
          case atStart => exact ⟨0, by omega, rfl, rfl, hB, hG⟩
          case round =>
            clear hB hG
            obtain ⟨k, hkl, rfl, rfl, hB, hG⟩ := hrel
            by_cases hk : k < l.length
            · obtain ⟨p, hp⟩ : ∃ p, l[k]? = some p := ⟨_, List.getElem?_eq_getElem hk⟩
              have HP : Hid (cnP (l.take (k + 1)) (b.2.2.1 - t) = if b.2.2.1 - t < p.1 then p.2 else cnP (l.take k) (b.2.2.1 - t)) := Lib.hid (cnP_succ _ hp)
              obtain ⟨bb, bo, rfl, hbb, _⟩ := RdR.elem tiC_sz HR.out hG hp
              have HW := Lib.hid (tiRow HR.out hG hp)
              have hB5 := Bk.new wr 122 (tiC p)
              have hG5 := hG.alloc (.cells (tiC p) 122)
              have hB6 := hB.alloc (.cells (tiC p) 122)
              have cb : wr.cell? ⟨w.heap.size, 2, none⟩ = some (.int .i64 b.2.2.1) := hB.cell 2
              have hlt := hB.lt
              have HB6 := Lib.hid hB6
              have HG5 := Lib.hid hG5
              clear hp hG hB hB5 hB6 hG5
              rcases (show b.2.2.1 - t < p.1 ∨ p.1 ≤ b.2.2.1 - t by omega) with h2 | h2
              · have HQ : Hid (p.2 = cnP (l.take (k + 1)) (b.2.2.1 - t)) := Lib.hid (by rw [HP.out, if_pos h2])
                clear HP
                generalize cnP (l.take k) (b.2.2.1 - t) = N0
                go_wp2_with (refine wpList_load_at rfl 122 _ rfl ⟨bb, bo + k * 2, none⟩ rfl #[.int .i64 p.1, .int .i64 p.2] _ HW.out Tryd.underlying122 rfl (ti_info p) ?_)
                go_roundw
                case rel => exact ⟨k + 1, by omega, by go_num, by rw [← HQ.out], HB6.out, HG5.out⟩
                case measure => simp [intOf]; omega
              · have HQ : Hid (cnP (l.take k) (b.2.2.1 - t) = cnP (l.take (k + 1)) (b.2.2.1 - t)) := Lib.hid (by rw [HP.out, if_neg (by omega)])
                have h3 : ¬ b.2.2.1 - t < p.1 := by omega
                clear HP
                go_wp2_with (refine wpList_load_at rfl 122 _ rfl ⟨bb, bo + k * 2, none⟩ rfl #[.int .i64 p.1, .int .i64 p.2] _ HW.out Tryd.underlying122 rfl (ti_info p) ?_)
                go_roundw
                case rel => exact ⟨k + 1, by omega, by go_num, by rw [← HQ.out], HB6.out, HG5.out⟩
                case measure => simp [intOf]; omega
            · obtain rfl : k = l.length := by omega
              rw [List.take_length] at *
              obtain ⟨n0, n1⟩ := cnP_rng HOK.out (b.2.2.1 - t)
              generalize cnP l (b.2.2.1 - t) = N at HN n0 n1 ⊢
              have m0 : 0 ≤ c * N := Int.mul_nonneg c0 n0
              have m1 : c * N ≤ 1000000000000 := by
                have := Int.mul_le_mul c1 n1 n0 (by omega)
                omega
              go_wp2_with fail
              go_ret2
              exact ⟨by rw [HF.out, HN.out]; rfl, hG⟩
    · have HF : Hid (cfE l b c t = boE [b]) := Lib.hid (by rw [HE.out, if_neg h1])
      have HN : Hid (cfN l b c t = 0) := Lib.hid (by rw [cfN, if_neg (by rw [HF.out]; exact h1)])
      have h1' : (boE [b] != 0) = true := by rw [bne_iff_ne]; exact h1
      clear h1 HE
      generalize boE [b] = E at h1' HF ⊢
      go_wp2_with fail
      go_ret2
      exact ⟨by rw [HF.out, HN.out]; rfl, hG⟩
  · have HF : Hid (cfE l b c t = tiE l) := Lib.hid (by rw [cfE, if_neg h0])
    have HN : Hid (cfN l b c t = 0) := Lib.hid (by rw [cfN, if_neg (by rw [HF.out]; exact h0)])
    have h0' : (tiE l != 0) = true := by rw [bne_iff_ne]; exact h0
    clear h0
    generalize tiE l = E at h0' HF ⊢
    go_wp2_with fail
    go_ret2
    exact ⟨by rw [HF.out, HN.out]; rfl, hG⟩
def CcoRel (w : World) (l : List Ti) (d c : Int) (g : Nat) (b : Bo) (s i : Value) (wr : World) : Prop :=
  ∃ k : Nat, k ≤ l.length ∧ i = .int .i64 k ∧ s = .int .i64 (c * cnP (l.take k) d / 1000) ∧ Bk wr g 31 (boC b) ∧ G w wr none
set_option maxRecDepth 100000 in
set_option maxHeartbeats 4000000 in
theorem cancelOf_c (v : Value) (l : List Ti) (b : Bo) (c t : Int) (w : World) (hr : RdR w 2 tiC v l) (hn : l.length ≤ 1000) (h0 : tiE l = 0) (a0 : 0 ≤ b.2.2.1) (a1 : b.2.2.1 < 5761440) (t0 : 0 ≤ t) (t1 : t < 5761440) (c0 : 0 ≤ c) (c1 : c ≤ 1000000000) :
    Calls Tryd.prog 22 #[v, .agg (boC b), .int .i64 c, .int .i64 t] w fun e w' => e = .returned (.int .i64 (c * cnP l (b.2.2.1 - t) / 1000)) ∧ G w w' none := by
  have HR := Lib.hid hr
  have hB := Bk.new w 31 (boC b)
  have hG := (G.refl w none).alloc (.cells (boC b) 31)
  have HOK := Lib.hid (tiE_ok h0)
  obtain ⟨a, cap, rfl, hcap, hm⟩ := RdR.form hr
  clear hr h0
  go_enter Tryd.func22, Tryd.ntmps22
  go_wp2_with fail
  go_loopw [9, 14] (CcoRel w l (b.2.2.1 - t) c w.heap.size b) (fun _ i _ => l.length - (intOf i).toNat)
  case atStart => exact ⟨0, by omega, rfl, by rw [List.take_zero, show cnP [] (b.2.2.1 - t) = 0 from rfl, Int.mul_zero]; rfl, hB, hG⟩
  case round =>
    clear hB hG
    obtain ⟨k, hkl, rfl, rfl, hB, hG⟩ := hrel
    by_cases hk : k < l.length
    · obtain ⟨p, hp⟩ : ∃ p, l[k]? = some p := ⟨_, List.getElem?_eq_getElem hk⟩
      have HP : Hid (cnP (l.take (k + 1)) (b.2.2.1 - t) = if b.2.2.1 - t < p.1 then p.2 else cnP (l.take k) (b.2.2.1 - t)) := Lib.hid (cnP_succ _ hp)
      obtain ⟨n0, n1⟩ := HOK.out p (List.mem_of_getElem? hp)
      have m0 : 0 ≤ c * p.2 := Int.mul_nonneg c0 n0
      have m1 : c * p.2 ≤ 1000000000000 := by
        have := Int.mul_le_mul c1 n1 n0 (by omega)
        omega
      obtain ⟨bb, bo, rfl, hbb, _⟩ := RdR.elem tiC_sz HR.out hG hp
      have HW := Lib.hid (tiRow HR.out hG hp)
      have HB6 := Lib.hid (hB.alloc (.cells (tiC p) 122))
      have HG5 := Lib.hid (hG.alloc (.cells (tiC p) 122))
      have cb : wr.cell? ⟨w.heap.size, 2, none⟩ = some (.int .i64 b.2.2.1) := hB.cell 2
      have hlt := hB.lt
      clear hp hG hB
      rcases (show b.2.2.1 - t < p.1 ∨ p.1 ≤ b.2.2.1 - t by omega) with h2 | h2
      · have HQ : Hid (p.2 = cnP (l.take (k + 1)) (b.2.2.1 - t)) := Lib.hid (by rw [HP.out, if_pos h2])
        clear HP
        generalize c * cnP (l.take k) (b.2.2.1 - t) / 1000 = N0
        go_wp2_with (refine wpList_load_at rfl 122 _ rfl ⟨bb, bo + k * 2, none⟩ rfl #[.int .i64 p.1, .int .i64 p.2] _ HW.out Tryd.underlying122 rfl (ti_info p) ?_)
        go_roundw
        case rel => exact ⟨k + 1, by omega, by go_num, by rw [← HQ.out], HB6.out, HG5.out⟩
        case measure => simp [intOf]; omega
      · have HQ : Hid (cnP (l.take k) (b.2.2.1 - t) = cnP (l.take (k + 1)) (b.2.2.1 - t)) := Lib.hid (by rw [HP.out, if_neg (by omega)])
        have h3 : ¬ b.2.2.1 - t < p.1 := by omega
        clear HP
        go_wp2_with (refine wpList_load_at rfl 122 _ rfl ⟨bb, bo + k * 2, none⟩ rfl #[.int .i64 p.1, .int .i64 p.2] _ HW.out Tryd.underlying122 rfl (ti_info p) ?_)
        go_roundw
        case rel => exact ⟨k + 1, by omega, by go_num, by rw [← HQ.out], HB6.out, HG5.out⟩
        case measure => simp [intOf]; omega
    · obtain rfl : k = l.length := by omega
      rw [List.take_length] at *
      obtain ⟨N, hN⟩ : ∃ N, c * cnP l (b.2.2.1 - t) / 1000 = N := ⟨_, rfl⟩
      have HN := Lib.hid hN
      rw [hN]
      clear hN
      go_wp2_with fail
      go_ret
      exact ⟨by rw [HN.out]; rfl, hG⟩
end Go.Proofs.YtndeidcddlmhbaaDoor

/- basic.Lowest. -/
namespace Go.Proofs.YtndeidcddlmhbaaDoor
open Go.RowKit

def frC (a b : Int) : Array Value := #[.int .i64 a, .int .i64 b]
theorem fr_info (a b : Int) : (Tryd.prog.info? 134).map (·.size) = some (frC a b).size := (by kernel_rfl : (Tryd.prog.info? 134).map (·.size) = some 2)
theorem fr_one (a b : Int) : (frC a b).all (·.oneCell') = true := by simp [frC, Value.oneCell']
theorem quo_wrap (n a q : Nat) (hn : n ≤ 1000000000000000000) (hq : n / a = q) : IntKind.i64.wrap ((n : Int) / (a : Int)) = (q : Int) := by
  have h2 : q ≤ n := by rw [← hq]; exact Nat.div_le_self n a
  have h1 : (n : Int) / (a : Int) = (q : Int) := by rw [← hq]; rfl
  rw [h1, IntKind.wrap_i64]
  omega
def LowRel (n d : Nat) (s5 s6 : Value) (w wr : World) : Prop :=
  ∃ a b : Nat, s5 = .int .i64 a ∧ s6 = .int .i64 b ∧ Nat.gcd a b = Nat.gcd d n ∧ a ≤ 1000000000000000000 ∧ b ≤ 1000000000000000000 ∧ 0 < a ∧ Bk wr w.heap.size 134 (frC 0 0) ∧ G w wr none
set_option maxRecDepth 100000 in
set_option maxHeartbeats 2000000 in
theorem lowest_c (n d : Nat) (w : World) (hn : n ≤ 1000000000000000000) (hd : d ≤ 1000000000000000000) (h0 : 0 < d) :
    Calls Tryd.prog 135 #[.int .i64 n, .int .i64 d] w fun e w' => e = .returned (.agg (frC (n / Nat.gcd d n : Nat) (d / Nat.gcd d n : Nat))) ∧ G w w' none := by
  go_enter Tryd.func135, Tryd.ntmps135
  go_wp2_with fail
  go_loopw [5, 6] (fun s5 s6 wr => LowRel n d s5 s6 w wr) (fun _ i _ => (intOf i).toNat)
  case atStart => exact ⟨d, n, rfl, rfl, rfl, hd, hn, h0, Bk.new w _ _, (G.refl _ _).alloc _⟩
  case round =>
    obtain ⟨a, b, rfl, rfl, hg, ha, hb, a0, hB, hG⟩ := hrel
    have HG := Lib.hid hg
    clear hg
    by_cases hb0 : b = 0
    · subst hb0
      have hag : a = Nat.gcd d n := by rw [← HG.out]; simp
      have HA := Lib.hid hag
      clear hag
      obtain ⟨q1, hq1⟩ : ∃ q, n / a = q := ⟨_, rfl⟩
      obtain ⟨q2, hq2⟩ : ∃ q, d / a = q := ⟨_, rfl⟩
      have hane : ¬ a = 0 := by omega
      have hw1 := quo_wrap n a q1 hn hq1
      have hw2 := quo_wrap d a q2 hd hq2
      have HQ1 := Lib.hid hq1
      have HQ2 := Lib.hid hq2
      clear hq1 hq2
      go_wp2_with fail
      have HQQ : Hid (Ending.returned (.agg (frC q1 q2)) = .returned (.agg (frC (n / Nat.gcd d n : Nat) (d / Nat.gcd d n : Nat)))) := Lib.hid (by rw [← HA.out, HQ1.out, HQ2.out])
      go_still_tail 7, (by kernel_rfl)
      change wpList _ _ _ _ _ wr.drew
      have hBd := hB.quiet ((G.refl wr none).drew)
      have hGd := hG.drew
      clear hB hG
      generalize wr.drew = w2 at hBd hGd ⊢
      go_wp2_with (refine wpList_store_row rfl 134 _ _ rfl w.heap.size (frC q1 q2) rfl rfl 134 _ hBd (fr_info q1 q2) rfl (fr_one q1 q2) ?_)
      refine bodyPost_ret (results_cell_row rfl _ _ w.heap.size 134 (frC q1 q2) (0, 0) _ rfl (hBd.setRow _) Tryd.underlying134 rfl (fr_info q1 q2)) rfl ?_
      exact ⟨HQQ.out, hGd.setRow (.inl (Nat.le_refl _)) _⟩
    · have hbp : 0 < b := by omega
      have hne : ((b : Int) != 0) = true := by rw [bne_iff_ne]; omega
      have hbq : ((b : Int) == 0) = false := by rw [beq_eq_false_iff_ne]; omega
      have htm : (a : Int).tmod (b : Int) = ((a % b : Nat) : Int) := by rw [Int.tmod_eq_emod_of_nonneg (by omega)]; rfl
      have hmw : IntKind.i64.wrap ((a % b : Nat) : Int) = ((a % b : Nat) : Int) := by have := Nat.mod_lt a hbp; rw [IntKind.wrap_i64]; omega
      have HML := Lib.hid (Nat.mod_lt a hbp)
      go_wp2_with fail
      go_quiet (fail)
      have hGq := hG.drewN nq
      have hBq := hB.drewN nq
      go_wp2_with fail
      go_roundw
      case rel => exact ⟨b, a % b, rfl, rfl, by rw [← HG.out, Nat.gcd_comm a b]; exact (Nat.gcd_rec b a).symm ▸ by rw [Nat.gcd_comm], hb, by have := HML.out; omega, hbp, hBq, hGq⟩
      case measure => have := HML.out; simp [intOf]; omega
end Go.Proofs.YtndeidcddlmhbaaDoor

/- Generators: Tiers; the law's 'more'. -/
namespace Go.Proofs.YtndeidcddlmhbaaDoor
open Go.RowKit

def TiersPost (s K : Nat) (w : World) (e : Ending) (w' : World) : Prop :=
  ∃ (v : Value) (l : List Ti), e = .returned v ∧ RdR w' 2 tiC v l ∧ l.length ≤ 3 ∧ (∀ r, v.ownBlock = some r → w.heap.size ≤ r) ∧ SB w' s (K + 1) ∧ G w w' (some s)
def tiTab : List (List Ti) := [[], [(1000, 100)], [(1000, 100), (60, 500), (1, 1000)], [(10, 300), (9, 300)], [(5, 1), (5, 2)], [(0, 1)], [(9, 1001)], [(9, 500), (5, 400)]]
def tiOut (g : Nat) : Array Value := #[.slice none 0 0, .slice (some ⟨g, 0, none⟩) 1 1, .slice (some ⟨g + 1, 0, none⟩) 3 3, .slice (some ⟨g + 2, 0, none⟩) 2 2, .slice (some ⟨g + 3, 0, none⟩) 2 2, .slice (some ⟨g + 4, 0, none⟩) 1 1, .slice (some ⟨g + 5, 0, none⟩) 1 1, .slice (some ⟨g + 6, 0, none⟩) 2 2]
theorem ti_r0 {w : World} {g : Nat} (h : Bk w g 122 #[.int .i64 1000, .int .i64 100]) : RdR w 2 tiC (.slice (some ⟨g, 0, none⟩) 1 1) [(1000, 100)] := h.rd 2 1 rfl (by omega)
theorem ti_r1 {w : World} {g : Nat} (h : Bk w g 122 #[.int .i64 1000, .int .i64 100, .int .i64 60, .int .i64 500, .int .i64 1, .int .i64 1000]) : RdR w 2 tiC (.slice (some ⟨g, 0, none⟩) 3 3) [(1000, 100), (60, 500), (1, 1000)] := h.rd 2 3 rfl (by omega)
theorem ti_r2 {w : World} {g : Nat} (h : Bk w g 122 #[.int .i64 10, .int .i64 300, .int .i64 9, .int .i64 300]) : RdR w 2 tiC (.slice (some ⟨g, 0, none⟩) 2 2) [(10, 300), (9, 300)] := h.rd 2 2 rfl (by omega)
theorem ti_r3 {w : World} {g : Nat} (h : Bk w g 122 #[.int .i64 5, .int .i64 1, .int .i64 5, .int .i64 2]) : RdR w 2 tiC (.slice (some ⟨g, 0, none⟩) 2 2) [(5, 1), (5, 2)] := h.rd 2 2 rfl (by omega)
theorem ti_r4 {w : World} {g : Nat} (h : Bk w g 122 #[.int .i64 0, .int .i64 1]) : RdR w 2 tiC (.slice (some ⟨g, 0, none⟩) 1 1) [(0, 1)] := h.rd 2 1 rfl (by omega)
theorem ti_r5 {w : World} {g : Nat} (h : Bk w g 122 #[.int .i64 9, .int .i64 1001]) : RdR w 2 tiC (.slice (some ⟨g, 0, none⟩) 1 1) [(9, 1001)] := h.rd 2 1 rfl (by omega)
theorem ti_r6 {w : World} {g : Nat} (h : Bk w g 122 #[.int .i64 9, .int .i64 500, .int .i64 5, .int .i64 400]) : RdR w 2 tiC (.slice (some ⟨g, 0, none⟩) 2 2) [(9, 500), (5, 400)] := h.rd 2 2 rfl (by omega)
theorem tiOut_at {w : World} {g : Nat} (h0 : Bk w (g) 122 #[.int .i64 1000, .int .i64 100]) (h1 : Bk w (g + 1) 122 #[.int .i64 1000, .int .i64 100, .int .i64 60, .int .i64 500, .int .i64 1, .int .i64 1000]) (h2 : Bk w (g + 2) 122 #[.int .i64 10, .int .i64 300, .int .i64 9, .int .i64 300]) (h3 : Bk w (g + 3) 122 #[.int .i64 5, .int .i64 1, .int .i64 5, .int .i64 2]) (h4 : Bk w (g + 4) 122 #[.int .i64 0, .int .i64 1]) (h5 : Bk w (g + 5) 122 #[.int .i64 9, .int .i64 1001]) (h6 : Bk w (g + 6) 122 #[.int .i64 9, .int .i64 500, .int .i64 5, .int .i64 400]) (j : Nat) (hj : j < 8) :
    ∃ (v : Value) (l : List Ti), (tiOut g)[j]? = some v ∧ RdR w 2 tiC v l ∧ l.length ≤ 3 ∧ (∀ r, v.ownBlock = some r → g ≤ r) := by
  match j, hj with
  | 0, _ => exact ⟨_, [], rfl, RdR.nil _ _ _, by decide, fun r e => by cases e⟩
  | 1, _ => exact ⟨_, _, rfl, ti_r0 h0, by decide, fun r e => by obtain rfl := Option.some.inj e; dsimp only; omega⟩
  | 2, _ => exact ⟨_, _, rfl, ti_r1 h1, by decide, fun r e => by obtain rfl := Option.some.inj e; dsimp only; omega⟩
  | 3, _ => exact ⟨_, _, rfl, ti_r2 h2, by decide, fun r e => by obtain rfl := Option.some.inj e; dsimp only; omega⟩
  | 4, _ => exact ⟨_, _, rfl, ti_r3 h3, by decide, fun r e => by obtain rfl := Option.some.inj e; dsimp only; omega⟩
  | 5, _ => exact ⟨_, _, rfl, ti_r4 h4, by decide, fun r e => by obtain rfl := Option.some.inj e; dsimp only; omega⟩
  | 6, _ => exact ⟨_, _, rfl, ti_r5 h5, by decide, fun r e => by obtain rfl := Option.some.inj e; dsimp only; omega⟩
  | 7, _ => exact ⟨_, _, rfl, ti_r6 h6, by decide, fun r e => by obtain rfl := Option.some.inj e; dsimp only; omega⟩
set_option maxRecDepth 100000 in
set_option maxHeartbeats 4000000 in
theorem tiers_c (w : World) (s : Nat) (K : Nat) (hs : SB w s K) (hk : K ≤ 900000000000) :
    Calls Tryd.prog 10 #[.pointer (some ⟨s, 0, none⟩)] w (TiersPost s K w) := by
  have hslt := hs.lt
  have h0 : Bk ((((((((w.alloc (.cells #[.int .i64 1000, .int .i64 100] 122)).alloc (.cells #[.int .i64 1000, .int .i64 100, .int .i64 60, .int .i64 500, .int .i64 1, .int .i64 1000] 122)).alloc (.cells #[.int .i64 10, .int .i64 300, .int .i64 9, .int .i64 300] 122)).alloc (.cells #[.int .i64 5, .int .i64 1, .int .i64 5, .int .i64 2] 122)).alloc (.cells #[.int .i64 0, .int .i64 1] 122)).alloc (.cells #[.int .i64 9, .int .i64 1001] 122)).alloc (.cells #[.int .i64 9, .int .i64 500, .int .i64 5, .int .i64 400] 122)).alloc (.cells #[.slice none 0 0, .slice (some ⟨w.heap.size, 0, none⟩) 1 1, .slice (some ⟨w.heap.size + 1, 0, none⟩) 3 3, .slice (some ⟨w.heap.size + 2, 0, none⟩) 2 2, .slice (some ⟨w.heap.size + 3, 0, none⟩) 2 2, .slice (some ⟨w.heap.size + 4, 0, none⟩) 1 1, .slice (some ⟨w.heap.size + 5, 0, none⟩) 1 1, .slice (some ⟨w.heap.size + 6, 0, none⟩) 2 2] 26)) (w.heap.size) 122 #[.int .i64 1000, .int .i64 100] := ((((((((Bk.newAt (w := w) (b := w.heap.size) (by simp) 122 #[.int .i64 1000, .int .i64 100]).alloc _).alloc _).alloc _).alloc _).alloc _).alloc _).alloc _)
  have h1 : Bk ((((((((w.alloc (.cells #[.int .i64 1000, .int .i64 100] 122)).alloc (.cells #[.int .i64 1000, .int .i64 100, .int .i64 60, .int .i64 500, .int .i64 1, .int .i64 1000] 122)).alloc (.cells #[.int .i64 10, .int .i64 300, .int .i64 9, .int .i64 300] 122)).alloc (.cells #[.int .i64 5, .int .i64 1, .int .i64 5, .int .i64 2] 122)).alloc (.cells #[.int .i64 0, .int .i64 1] 122)).alloc (.cells #[.int .i64 9, .int .i64 1001] 122)).alloc (.cells #[.int .i64 9, .int .i64 500, .int .i64 5, .int .i64 400] 122)).alloc (.cells #[.slice none 0 0, .slice (some ⟨w.heap.size, 0, none⟩) 1 1, .slice (some ⟨w.heap.size + 1, 0, none⟩) 3 3, .slice (some ⟨w.heap.size + 2, 0, none⟩) 2 2, .slice (some ⟨w.heap.size + 3, 0, none⟩) 2 2, .slice (some ⟨w.heap.size + 4, 0, none⟩) 1 1, .slice (some ⟨w.heap.size + 5, 0, none⟩) 1 1, .slice (some ⟨w.heap.size + 6, 0, none⟩) 2 2] 26)) (w.heap.size + 1) 122 #[.int .i64 1000, .int .i64 100, .int .i64 60, .int .i64 500, .int .i64 1, .int .i64 1000] := (((((((Bk.newAt (w := (w.alloc (.cells #[.int .i64 1000, .int .i64 100] 122))) (b := w.heap.size + 1) (by simp) 122 #[.int .i64 1000, .int .i64 100, .int .i64 60, .int .i64 500, .int .i64 1, .int .i64 1000]).alloc _).alloc _).alloc _).alloc _).alloc _).alloc _)
  have h2 : Bk ((((((((w.alloc (.cells #[.int .i64 1000, .int .i64 100] 122)).alloc (.cells #[.int .i64 1000, .int .i64 100, .int .i64 60, .int .i64 500, .int .i64 1, .int .i64 1000] 122)).alloc (.cells #[.int .i64 10, .int .i64 300, .int .i64 9, .int .i64 300] 122)).alloc (.cells #[.int .i64 5, .int .i64 1, .int .i64 5, .int .i64 2] 122)).alloc (.cells #[.int .i64 0, .int .i64 1] 122)).alloc (.cells #[.int .i64 9, .int .i64 1001] 122)).alloc (.cells #[.int .i64 9, .int .i64 500, .int .i64 5, .int .i64 400] 122)).alloc (.cells #[.slice none 0 0, .slice (some ⟨w.heap.size, 0, none⟩) 1 1, .slice (some ⟨w.heap.size + 1, 0, none⟩) 3 3, .slice (some ⟨w.heap.size + 2, 0, none⟩) 2 2, .slice (some ⟨w.heap.size + 3, 0, none⟩) 2 2, .slice (some ⟨w.heap.size + 4, 0, none⟩) 1 1, .slice (some ⟨w.heap.size + 5, 0, none⟩) 1 1, .slice (some ⟨w.heap.size + 6, 0, none⟩) 2 2] 26)) (w.heap.size + 2) 122 #[.int .i64 10, .int .i64 300, .int .i64 9, .int .i64 300] := ((((((Bk.newAt (w := ((w.alloc (.cells #[.int .i64 1000, .int .i64 100] 122)).alloc (.cells #[.int .i64 1000, .int .i64 100, .int .i64 60, .int .i64 500, .int .i64 1, .int .i64 1000] 122))) (b := w.heap.size + 2) (by simp) 122 #[.int .i64 10, .int .i64 300, .int .i64 9, .int .i64 300]).alloc _).alloc _).alloc _).alloc _).alloc _)
  have h3 : Bk ((((((((w.alloc (.cells #[.int .i64 1000, .int .i64 100] 122)).alloc (.cells #[.int .i64 1000, .int .i64 100, .int .i64 60, .int .i64 500, .int .i64 1, .int .i64 1000] 122)).alloc (.cells #[.int .i64 10, .int .i64 300, .int .i64 9, .int .i64 300] 122)).alloc (.cells #[.int .i64 5, .int .i64 1, .int .i64 5, .int .i64 2] 122)).alloc (.cells #[.int .i64 0, .int .i64 1] 122)).alloc (.cells #[.int .i64 9, .int .i64 1001] 122)).alloc (.cells #[.int .i64 9, .int .i64 500, .int .i64 5, .int .i64 400] 122)).alloc (.cells #[.slice none 0 0, .slice (some ⟨w.heap.size, 0, none⟩) 1 1, .slice (some ⟨w.heap.size + 1, 0, none⟩) 3 3, .slice (some ⟨w.heap.size + 2, 0, none⟩) 2 2, .slice (some ⟨w.heap.size + 3, 0, none⟩) 2 2, .slice (some ⟨w.heap.size + 4, 0, none⟩) 1 1, .slice (some ⟨w.heap.size + 5, 0, none⟩) 1 1, .slice (some ⟨w.heap.size + 6, 0, none⟩) 2 2] 26)) (w.heap.size + 3) 122 #[.int .i64 5, .int .i64 1, .int .i64 5, .int .i64 2] := (((((Bk.newAt (w := (((w.alloc (.cells #[.int .i64 1000, .int .i64 100] 122)).alloc (.cells #[.int .i64 1000, .int .i64 100, .int .i64 60, .int .i64 500, .int .i64 1, .int .i64 1000] 122)).alloc (.cells #[.int .i64 10, .int .i64 300, .int .i64 9, .int .i64 300] 122))) (b := w.heap.size + 3) (by simp) 122 #[.int .i64 5, .int .i64 1, .int .i64 5, .int .i64 2]).alloc _).alloc _).alloc _).alloc _)
  have h4 : Bk ((((((((w.alloc (.cells #[.int .i64 1000, .int .i64 100] 122)).alloc (.cells #[.int .i64 1000, .int .i64 100, .int .i64 60, .int .i64 500, .int .i64 1, .int .i64 1000] 122)).alloc (.cells #[.int .i64 10, .int .i64 300, .int .i64 9, .int .i64 300] 122)).alloc (.cells #[.int .i64 5, .int .i64 1, .int .i64 5, .int .i64 2] 122)).alloc (.cells #[.int .i64 0, .int .i64 1] 122)).alloc (.cells #[.int .i64 9, .int .i64 1001] 122)).alloc (.cells #[.int .i64 9, .int .i64 500, .int .i64 5, .int .i64 400] 122)).alloc (.cells #[.slice none 0 0, .slice (some ⟨w.heap.size, 0, none⟩) 1 1, .slice (some ⟨w.heap.size + 1, 0, none⟩) 3 3, .slice (some ⟨w.heap.size + 2, 0, none⟩) 2 2, .slice (some ⟨w.heap.size + 3, 0, none⟩) 2 2, .slice (some ⟨w.heap.size + 4, 0, none⟩) 1 1, .slice (some ⟨w.heap.size + 5, 0, none⟩) 1 1, .slice (some ⟨w.heap.size + 6, 0, none⟩) 2 2] 26)) (w.heap.size + 4) 122 #[.int .i64 0, .int .i64 1] := ((((Bk.newAt (w := ((((w.alloc (.cells #[.int .i64 1000, .int .i64 100] 122)).alloc (.cells #[.int .i64 1000, .int .i64 100, .int .i64 60, .int .i64 500, .int .i64 1, .int .i64 1000] 122)).alloc (.cells #[.int .i64 10, .int .i64 300, .int .i64 9, .int .i64 300] 122)).alloc (.cells #[.int .i64 5, .int .i64 1, .int .i64 5, .int .i64 2] 122))) (b := w.heap.size + 4) (by simp) 122 #[.int .i64 0, .int .i64 1]).alloc _).alloc _).alloc _)
  have h5 : Bk ((((((((w.alloc (.cells #[.int .i64 1000, .int .i64 100] 122)).alloc (.cells #[.int .i64 1000, .int .i64 100, .int .i64 60, .int .i64 500, .int .i64 1, .int .i64 1000] 122)).alloc (.cells #[.int .i64 10, .int .i64 300, .int .i64 9, .int .i64 300] 122)).alloc (.cells #[.int .i64 5, .int .i64 1, .int .i64 5, .int .i64 2] 122)).alloc (.cells #[.int .i64 0, .int .i64 1] 122)).alloc (.cells #[.int .i64 9, .int .i64 1001] 122)).alloc (.cells #[.int .i64 9, .int .i64 500, .int .i64 5, .int .i64 400] 122)).alloc (.cells #[.slice none 0 0, .slice (some ⟨w.heap.size, 0, none⟩) 1 1, .slice (some ⟨w.heap.size + 1, 0, none⟩) 3 3, .slice (some ⟨w.heap.size + 2, 0, none⟩) 2 2, .slice (some ⟨w.heap.size + 3, 0, none⟩) 2 2, .slice (some ⟨w.heap.size + 4, 0, none⟩) 1 1, .slice (some ⟨w.heap.size + 5, 0, none⟩) 1 1, .slice (some ⟨w.heap.size + 6, 0, none⟩) 2 2] 26)) (w.heap.size + 5) 122 #[.int .i64 9, .int .i64 1001] := (((Bk.newAt (w := (((((w.alloc (.cells #[.int .i64 1000, .int .i64 100] 122)).alloc (.cells #[.int .i64 1000, .int .i64 100, .int .i64 60, .int .i64 500, .int .i64 1, .int .i64 1000] 122)).alloc (.cells #[.int .i64 10, .int .i64 300, .int .i64 9, .int .i64 300] 122)).alloc (.cells #[.int .i64 5, .int .i64 1, .int .i64 5, .int .i64 2] 122)).alloc (.cells #[.int .i64 0, .int .i64 1] 122))) (b := w.heap.size + 5) (by simp) 122 #[.int .i64 9, .int .i64 1001]).alloc _).alloc _)
  have h6 : Bk ((((((((w.alloc (.cells #[.int .i64 1000, .int .i64 100] 122)).alloc (.cells #[.int .i64 1000, .int .i64 100, .int .i64 60, .int .i64 500, .int .i64 1, .int .i64 1000] 122)).alloc (.cells #[.int .i64 10, .int .i64 300, .int .i64 9, .int .i64 300] 122)).alloc (.cells #[.int .i64 5, .int .i64 1, .int .i64 5, .int .i64 2] 122)).alloc (.cells #[.int .i64 0, .int .i64 1] 122)).alloc (.cells #[.int .i64 9, .int .i64 1001] 122)).alloc (.cells #[.int .i64 9, .int .i64 500, .int .i64 5, .int .i64 400] 122)).alloc (.cells #[.slice none 0 0, .slice (some ⟨w.heap.size, 0, none⟩) 1 1, .slice (some ⟨w.heap.size + 1, 0, none⟩) 3 3, .slice (some ⟨w.heap.size + 2, 0, none⟩) 2 2, .slice (some ⟨w.heap.size + 3, 0, none⟩) 2 2, .slice (some ⟨w.heap.size + 4, 0, none⟩) 1 1, .slice (some ⟨w.heap.size + 5, 0, none⟩) 1 1, .slice (some ⟨w.heap.size + 6, 0, none⟩) 2 2] 26)) (w.heap.size + 6) 122 #[.int .i64 9, .int .i64 500, .int .i64 5, .int .i64 400] := ((Bk.newAt (w := ((((((w.alloc (.cells #[.int .i64 1000, .int .i64 100] 122)).alloc (.cells #[.int .i64 1000, .int .i64 100, .int .i64 60, .int .i64 500, .int .i64 1, .int .i64 1000] 122)).alloc (.cells #[.int .i64 10, .int .i64 300, .int .i64 9, .int .i64 300] 122)).alloc (.cells #[.int .i64 5, .int .i64 1, .int .i64 5, .int .i64 2] 122)).alloc (.cells #[.int .i64 0, .int .i64 1] 122)).alloc (.cells #[.int .i64 9, .int .i64 1001] 122))) (b := w.heap.size + 6) (by simp) 122 #[.int .i64 9, .int .i64 500, .int .i64 5, .int .i64 400]).alloc _)
  have ho : Bk ((((((((w.alloc (.cells #[.int .i64 1000, .int .i64 100] 122)).alloc (.cells #[.int .i64 1000, .int .i64 100, .int .i64 60, .int .i64 500, .int .i64 1, .int .i64 1000] 122)).alloc (.cells #[.int .i64 10, .int .i64 300, .int .i64 9, .int .i64 300] 122)).alloc (.cells #[.int .i64 5, .int .i64 1, .int .i64 5, .int .i64 2] 122)).alloc (.cells #[.int .i64 0, .int .i64 1] 122)).alloc (.cells #[.int .i64 9, .int .i64 1001] 122)).alloc (.cells #[.int .i64 9, .int .i64 500, .int .i64 5, .int .i64 400] 122)).alloc (.cells #[.slice none 0 0, .slice (some ⟨w.heap.size, 0, none⟩) 1 1, .slice (some ⟨w.heap.size + 1, 0, none⟩) 3 3, .slice (some ⟨w.heap.size + 2, 0, none⟩) 2 2, .slice (some ⟨w.heap.size + 3, 0, none⟩) 2 2, .slice (some ⟨w.heap.size + 4, 0, none⟩) 1 1, .slice (some ⟨w.heap.size + 5, 0, none⟩) 1 1, .slice (some ⟨w.heap.size + 6, 0, none⟩) 2 2] 26)) (w.heap.size + 7) 26 (tiOut w.heap.size) := Bk.newAt (w := (((((((w.alloc (.cells #[.int .i64 1000, .int .i64 100] 122)).alloc (.cells #[.int .i64 1000, .int .i64 100, .int .i64 60, .int .i64 500, .int .i64 1, .int .i64 1000] 122)).alloc (.cells #[.int .i64 10, .int .i64 300, .int .i64 9, .int .i64 300] 122)).alloc (.cells #[.int .i64 5, .int .i64 1, .int .i64 5, .int .i64 2] 122)).alloc (.cells #[.int .i64 0, .int .i64 1] 122)).alloc (.cells #[.int .i64 9, .int .i64 1001] 122)).alloc (.cells #[.int .i64 9, .int .i64 500, .int .i64 5, .int .i64 400] 122))) (b := w.heap.size + 7) (by simp) 26 (tiOut w.heap.size)
  have hSB : SB ((((((((w.alloc (.cells #[.int .i64 1000, .int .i64 100] 122)).alloc (.cells #[.int .i64 1000, .int .i64 100, .int .i64 60, .int .i64 500, .int .i64 1, .int .i64 1000] 122)).alloc (.cells #[.int .i64 10, .int .i64 300, .int .i64 9, .int .i64 300] 122)).alloc (.cells #[.int .i64 5, .int .i64 1, .int .i64 5, .int .i64 2] 122)).alloc (.cells #[.int .i64 0, .int .i64 1] 122)).alloc (.cells #[.int .i64 9, .int .i64 1001] 122)).alloc (.cells #[.int .i64 9, .int .i64 500, .int .i64 5, .int .i64 400] 122)).alloc (.cells #[.slice none 0 0, .slice (some ⟨w.heap.size, 0, none⟩) 1 1, .slice (some ⟨w.heap.size + 1, 0, none⟩) 3 3, .slice (some ⟨w.heap.size + 2, 0, none⟩) 2 2, .slice (some ⟨w.heap.size + 3, 0, none⟩) 2 2, .slice (some ⟨w.heap.size + 4, 0, none⟩) 1 1, .slice (some ⟨w.heap.size + 5, 0, none⟩) 1 1, .slice (some ⟨w.heap.size + 6, 0, none⟩) 2 2] 26)) s K := hs.quiet (G.alloc (G.alloc (G.alloc (G.alloc (G.alloc (G.alloc (G.alloc (G.alloc (G.refl w none) _) _) _) _) _) _) _) _)
  have hG : G w ((((((((w.alloc (.cells #[.int .i64 1000, .int .i64 100] 122)).alloc (.cells #[.int .i64 1000, .int .i64 100, .int .i64 60, .int .i64 500, .int .i64 1, .int .i64 1000] 122)).alloc (.cells #[.int .i64 10, .int .i64 300, .int .i64 9, .int .i64 300] 122)).alloc (.cells #[.int .i64 5, .int .i64 1, .int .i64 5, .int .i64 2] 122)).alloc (.cells #[.int .i64 0, .int .i64 1] 122)).alloc (.cells #[.int .i64 9, .int .i64 1001] 122)).alloc (.cells #[.int .i64 9, .int .i64 500, .int .i64 5, .int .i64 400] 122)).alloc (.cells #[.slice none 0 0, .slice (some ⟨w.heap.size, 0, none⟩) 1 1, .slice (some ⟨w.heap.size + 1, 0, none⟩) 3 3, .slice (some ⟨w.heap.size + 2, 0, none⟩) 2 2, .slice (some ⟨w.heap.size + 3, 0, none⟩) 2 2, .slice (some ⟨w.heap.size + 4, 0, none⟩) 1 1, .slice (some ⟨w.heap.size + 5, 0, none⟩) 1 1, .slice (some ⟨w.heap.size + 6, 0, none⟩) 2 2] 26)) (some s) := G.alloc (G.alloc (G.alloc (G.alloc (G.alloc (G.alloc (G.alloc (G.alloc (G.refl w (some s)) _) _) _) _) _) _) _) _
  have hz : ((((((((w.alloc (.cells #[.int .i64 1000, .int .i64 100] 122)).alloc (.cells #[.int .i64 1000, .int .i64 100, .int .i64 60, .int .i64 500, .int .i64 1, .int .i64 1000] 122)).alloc (.cells #[.int .i64 10, .int .i64 300, .int .i64 9, .int .i64 300] 122)).alloc (.cells #[.int .i64 5, .int .i64 1, .int .i64 5, .int .i64 2] 122)).alloc (.cells #[.int .i64 0, .int .i64 1] 122)).alloc (.cells #[.int .i64 9, .int .i64 1001] 122)).alloc (.cells #[.int .i64 9, .int .i64 500, .int .i64 5, .int .i64 400] 122)).alloc (.cells #[.slice none 0 0, .slice (some ⟨w.heap.size, 0, none⟩) 1 1, .slice (some ⟨w.heap.size + 1, 0, none⟩) 3 3, .slice (some ⟨w.heap.size + 2, 0, none⟩) 2 2, .slice (some ⟨w.heap.size + 3, 0, none⟩) 2 2, .slice (some ⟨w.heap.size + 4, 0, none⟩) 1 1, .slice (some ⟨w.heap.size + 5, 0, none⟩) 1 1, .slice (some ⟨w.heap.size + 6, 0, none⟩) 2 2] 26)).heap.size = w.heap.size + 8 := by simp
  go_enter Tryd.func10, Tryd.ntmps10
  go_wp2_with fail
  generalize ((((((((w.alloc (.cells #[.int .i64 1000, .int .i64 100] 122)).alloc (.cells #[.int .i64 1000, .int .i64 100, .int .i64 60, .int .i64 500, .int .i64 1, .int .i64 1000] 122)).alloc (.cells #[.int .i64 10, .int .i64 300, .int .i64 9, .int .i64 300] 122)).alloc (.cells #[.int .i64 5, .int .i64 1, .int .i64 5, .int .i64 2] 122)).alloc (.cells #[.int .i64 0, .int .i64 1] 122)).alloc (.cells #[.int .i64 9, .int .i64 1001] 122)).alloc (.cells #[.int .i64 9, .int .i64 500, .int .i64 5, .int .i64 400] 122)).alloc (.cells #[.slice none 0 0, .slice (some ⟨w.heap.size, 0, none⟩) 1 1, .slice (some ⟨w.heap.size + 1, 0, none⟩) 3 3, .slice (some ⟨w.heap.size + 2, 0, none⟩) 2 2, .slice (some ⟨w.heap.size + 3, 0, none⟩) 2 2, .slice (some ⟨w.heap.size + 4, 0, none⟩) 1 1, .slice (some ⟨w.heap.size + 5, 0, none⟩) 1 1, .slice (some ⟨w.heap.size + 6, 0, none⟩) 2 2] 26)) = w8 at h0 h1 h2 h3 h4 h5 h6 ho hSB hG hz ⊢
  refine (pick_c _ _ _ [0, 1, 1, 2, 2, 2, 3, 3, 4, 5, 6, 7] _ _ K (hSB.alloc _) (by omega) (by decide) (by decide) (Rd.newAt _ hz rfl (by decide)) (hSB.newAt _ _ _ (Nat.le_of_eq hz))).mono ?_; rintro e w2 ⟨a, rfl, ha, hSB2, hG2⟩
  have ha0 : 0 ≤ a ∧ a < 8 := by simp only [List.mem_cons, List.mem_nil_iff, or_false] at ha; omega
  obtain ⟨a0, a1⟩ := ha0
  obtain ⟨j, rfl⟩ := Int.eq_ofNat_of_zero_le a0
  have hj : j < 8 := by omega
  have hf : ∀ i : Nat, i < 8 → some (w.heap.size + i) ≠ some s := fun i _ e => by have := Option.some.inj e; omega
  obtain ⟨v, l, hv, hrd, hln, hvb⟩ := tiOut_at (w := w2) (g := w.heap.size) ((h0.alloc _).grown hG2 (hf 0 (by omega))) ((h1.alloc _).grown hG2 (hf 1 (by omega))) ((h2.alloc _).grown hG2 (hf 2 (by omega))) ((h3.alloc _).grown hG2 (hf 3 (by omega))) ((h4.alloc _).grown hG2 (hf 4 (by omega))) ((h5.alloc _).grown hG2 (hf 5 (by omega))) ((h6.alloc _).grown hG2 (hf 6 (by omega))) j hj
  have ho2 : Bk w2 (w.heap.size + 7) 26 (tiOut w.heap.size) := (ho.alloc _).grown hG2 (hf 7 (by omega))
  have hcell : w2.cell? ⟨w.heap.size + 7, j, none⟩ = some v := (ho2.cell j).trans hv
  have hG02 := (hG.alloc _).trans hG2
  clear h0 h1 h2 h3 h4 h5 h6 ho hSB hG hG2 ho2 hv ha hf
  go_wp2_with fail
  go_ret
  exact ⟨v, l, rfl, hrd, hln, hvb, hSB2, hG02⟩
def MorePost (s K : Nat) (w : World) (e : Ending) (w' : World) : Prop :=
  ∃ b : Bo, e = .returned (.agg (boC b)) ∧ boB b ∧ SB w' s (K + 9) ∧ G w w' (some s)
theorem more_set2 (x y : ByteArray) (a z m p v : Int) : (boC (x, y, a, z, m, p)).setIfInBounds 2 (.int .i64 v) = boC (x, y, v, z, m, p) := rfl
theorem more_set3 (x y : ByteArray) (a z m p v : Int) : (boC (x, y, a, z, m, p)).setIfInBounds 3 (.int .i64 v) = boC (x, y, a, v, m, p) := rfl
theorem more_set45 (x y : ByteArray) (a z m p v u : Int) : ((boC (x, y, a, z, m, p)).setIfInBounds 5 (.int .i64 v)).setIfInBounds 4 (.int .i64 u) = boC (x, y, a, z, u, v) := rfl
theorem bo_oneB (b : Bo) : (boC b).all (·.oneCell') = true := by simp [boC, Value.oneCell']
def boZ : Bo := (⟨#[]⟩, ⟨#[]⟩, 0, 0, 0, 0)
set_option maxRecDepth 100000 in
set_option maxHeartbeats 4000000 in
theorem more_c (w : World) (s : Nat) (K : Nat) (hs : SB w s K) (hk : K ≤ 900000000000) :
    Calls Tryd.prog 11 #[.pointer (some ⟨s, 0, none⟩)] w (MorePost s K w) := by
  have hslt := hs.lt
  have hB0 := Bk.new w 31 (boC boZ)
  have hSB0 := hs.alloc (.cells (boC boZ) 31)
  have hG0 := (G.refl w (some s)).alloc (.cells (boC boZ) 31)
  have hz0 : (w.alloc (.cells (boC boZ) 31)).heap.size = w.heap.size + 1 := by simp
  go_enter Tryd.func11, Tryd.ntmps11
  go_wp2_with fail
  refine (some_c _ _ _ [⟨#[98, 122]⟩, ⟨#[98, 122]⟩, ⟨#[97, 97]⟩, ⟨#[98, 97]⟩] _ _ K (hSB0.alloc _) (by omega) (by decide) (by decide) (Rd.newAt _ hz0 rfl (by decide)) (hSB0.newAt _ _ _ (Nat.le_of_eq hz0))).mono ?_; rintro e w1 ⟨x, rfl, hx, hSB1, hG1⟩
  have hxs := small_pick hx (by decide)
  have hB1 := (hB0.alloc _).grown hG1 (fun e => by have := Option.some.inj e; omega)
  have hG01 := (hG0.alloc _).trans hG1
  clear hB0 hSB0 hG0 hG1 hx hz0
  go_wp2_with fail
  refine (some_c _ _ _ [⟨#[109, 105, 110, 105]⟩, ⟨#[109, 105, 100, 105]⟩, ⟨#[98, 105, 103]⟩, ⟨#[109, 97, 120, 105]⟩, ⟨#[110, 111, 110, 101]⟩] _ _ _ (hSB1.alloc _) (by omega) (by decide) (by decide) (Rd.newAt _ rfl rfl (by decide)) (hSB1.newAt _ _ _ (Nat.le_refl _))).mono ?_; rintro e w2 ⟨y, rfl, hy, hSB2, hG2⟩
  have hys := small_pick hy (by decide)
  have hB2 := (hB1.alloc _).grown hG2 (fun e => by have := Option.some.inj e; omega)
  have hG02 := (hG01.alloc _).trans hG2
  clear hB1 hSB1 hG01 hG2 hy
  have hN3 := Bk.new w2 31 (boC (x, y, 0, 0, 0, 50))
  have hB3 := hB2.alloc (.cells (boC (x, y, 0, 0, 0, 50)) 31)
  have hSB3 := hSB2.alloc (.cells (boC (x, y, 0, 0, 0, 50)) 31)
  have hG03 := hG02.alloc (.cells (boC (x, y, 0, 0, 0, 50)) 31)
  have hz3 : (w2.alloc (.cells (boC (x, y, 0, 0, 0, 50)) 31)).heap.size = w2.heap.size + 1 := by simp
  have hl2 := hB2.lt
  have hs2 := hSB2.lt
  clear hB2 hSB2 hG02
  go_wp2_with fail
  refine (pick_c _ _ _ [0, 10, 15, 25, 5761410] _ _ _ (hSB3.alloc _) (by omega) (by decide) (by decide) (Rd.newAt _ hz3 rfl (by decide)) (hSB3.newAt _ _ _ (Nat.le_of_eq hz3))).mono ?_; rintro e w4 ⟨a, rfl, ha, hSB4, hG4⟩
  have ha0 : 0 ≤ a ∧ a ≤ 5761410 := by simp only [List.mem_cons, List.mem_nil_iff, or_false] at ha; omega
  obtain ⟨a0, a1⟩ := ha0
  have hB4 := (hB3.alloc _).grown hG4 (fun e => by have := Option.some.inj e; omega)
  have hN4 := (hN3.alloc _).grown hG4 (fun e => by have := Option.some.inj e; omega)
  have hG04 := (hG03.alloc _).trans hG4
  have hz4 := hG4.size
  clear hB3 hN3 hSB3 hG03 hG4 ha hz3
  generalize w2.heap.size = g at hl2 hs2 hN4 ⊢
  have c2 : w4.cell? ⟨g, 2, none⟩ = some (.int .i64 0) := hN4.cell 2
  have f2 : w4.frozen? ⟨g, 2, none⟩ = false := hN4.free 2
  have hN5 : Bk (w4.setCell ⟨g, 2, none⟩ (.int .i64 a)) g 31 (boC (x, y, a, 0, 0, 50)) := hN4.set 2 _
  have hB5 := hB4.far (p := ⟨g, 2, none⟩) (show w.heap.size ≠ g by omega) (.int .i64 a)
  have hSB5 := hSB4.setCell (p := ⟨g, 2, none⟩) hs2 (.int .i64 a)
  have hgw : w.heap.size ≤ g := by omega
  have hG05 := hG04.setCell (p := ⟨g, 2, none⟩) (.inl hgw) (.int .i64 a)
  clear hN4 hB4 hSB4 hG04 hz4
  go_wp2_with fail
  generalize w4.setCell ⟨g, 2, none⟩ (.int .i64 a) = w5 at hN5 hB5 hSB5 hG05 ⊢
  have c2 : w5.cell? ⟨g, 2, none⟩ = some (.int .i64 a) := hN5.cell 2
  have f3 : w5.frozen? ⟨g, 3, none⟩ = false := hN5.free 3
  have HN5 := Lib.hid (hN5.quiet ((G.refl w5 none).drew))
  have HB5 := Lib.hid (hB5.quiet ((G.refl w5 none).drew))
  have hSBd := hSB5.quiet ((G.refl w5 none).drew)
  have hG5d := hG05.drew
  clear hN5 hB5 hSB5 hG05
  go_region_held3 (fun w' => w'.cell? ⟨g, 2, none⟩ = some (.int .i64 a)) (first | exact c2 | exact c26 | exact c27 | go_keep) (first | (go_at_call 12; refine (pick_c _ _ _ [1, 5, 10, 10, 29, 0] _ _ _ (hSBd.alloc _) (by omega) (by decide) (by decide) (Rd.newAt _ rfl rfl (by decide)) (hSBd.newAt _ _ _ (Nat.le_refl _))).mono ?_; rintro e w6 ⟨r, rfl, hr, hSB6, hG6⟩; have hr0 : 0 ≤ r ∧ r ≤ 29 := (by simp only [List.mem_cons, List.mem_nil_iff, or_false] at hr; omega); obtain ⟨r0, r1⟩ := hr0; have hN6 := (HN5.out.alloc _).grown hG6 (fun e => by have := Option.some.inj e; omega); have hB6 := (HB5.out.alloc _).grown hG6 (fun e => by have := Option.some.inj e; omega); have hG06 := (hG5d.alloc _).trans hG6; have c26 : w6.cell? ⟨g, 2, none⟩ = some (.int .i64 a) := hN6.cell 2; have c27 : (w6.setCell ⟨g, 3, none⟩ (.int .i64 (a + r))).cell? ⟨g, 2, none⟩ = some (.int .i64 a) := (hN6.set 3 (.int .i64 (a + r))).cell 2; have f36 : w6.frozen? ⟨g, 3, none⟩ = false := hN6.free 3; have c36 : w6.cell? ⟨g, 3, none⟩ = some (.int .i64 0) := hN6.cell 3; have hwr : IntKind.i64.wrap (a + r) = a + r := (by rw [IntKind.wrap_i64]; omega); clear hr hG6))
  have hN7 : Bk (w6.setCell ⟨g, 3, none⟩ (.int .i64 (a + r))) g 31 (boC (x, y, a, a + r, 0, 50)) := hN6.set 3 _
  have hB7 := hB6.far (p := ⟨g, 3, none⟩) (show w.heap.size ≠ g by omega) (.int .i64 (a + r))
  have hSB7 := hSB6.setCell (p := ⟨g, 3, none⟩) hs2 (.int .i64 (a + r))
  have hG07 := hG06.setCell (p := ⟨g, 3, none⟩) (.inl hgw) (.int .i64 (a + r))
  clear HN5 HB5 hSBd hG5d hN6 hB6 hSB6 hG06 c26 c27 f36 c36 hwr c2 f3
  generalize w6.setCell ⟨g, 3, none⟩ (.int .i64 (a + r)) = w7 at hN7 hB7 hSB7 hG07 ⊢
  obtain ⟨z, hz⟩ : ∃ z, a + r = z := ⟨_, rfl⟩
  have hzb : bnd a ∧ bnd z := by unfold bnd; omega
  have HZ := Lib.hid hzb
  rw [hz] at hN7
  clear hz hzb r0 r1 a0 a1
  go_wp2_with fail
  refine (flip_c _ _ _ _ hSB7 (by omega) (by omega)).mono ?_; rintro e w8 ⟨q, rfl, hSB8, hG8⟩
  have hN8 := hN7.grown hG8 (fun e => by have := Option.some.inj e; omega)
  have hB8 := hB7.grown hG8 (fun e => by have := Option.some.inj e; omega)
  have hG08 := hG07.trans hG8
  clear hN7 hB7 hSB7 hG07 hG8
  cases q with
  | false =>
    go_wp2_with (first | (refine wpList_load_row rfl 31 _ rfl g rfl 31 #[.string (x, y, a, z, 0, 50).1, .string (x, y, a, z, 0, 50).2.1, .int .i64 (x, y, a, z, 0, 50).2.2.1, .int .i64 (x, y, a, z, 0, 50).2.2.2.1, .int .i64 (x, y, a, z, 0, 50).2.2.2.2.1, .int .i64 (x, y, a, z, 0, 50).2.2.2.2.2] (0, 0) _ hN8 Tryd.underlying31 rfl (bo_info (x, y, a, z, 0, 50)) ?_) | (refine wpList_store_row rfl 31 _ _ rfl w.heap.size (boC (x, y, a, z, 0, 50)) rfl rfl 31 _ hB8 (bo_info (x, y, a, z, 0, 50)) rfl (bo_oneB (x, y, a, z, 0, 50)) ?_))
    refine bodyPost_ret (results_cell_row rfl _ _ w.heap.size 31 (boC (x, y, a, z, 0, 50)) (0, 0) _ rfl (hB8.setRow _) Tryd.underlying31 rfl (bo_info (x, y, a, z, 0, 50))) rfl ?_
    exact ⟨_, rfl, ⟨hxs, hys, HZ.out.1, HZ.out.2, (by show bnd 0; unfold bnd; omega), (by show bnd 50; unfold bnd; omega)⟩, (hSB8.setRow hslt _).le (by omega), hG08.setRow (.inl (Nat.le_refl _)) _⟩
  | true =>
    go_wp2_with fail
    refine (odd_c _ _ _ _ _ hSB8 (by omega) (by omega) (by omega) (by omega) (by omega)).mono ?_; rintro e w9 ⟨y1, rfl, y10, y11, hSB9, hG9⟩
    have hN9 := hN8.grown hG9 (fun e => by have := Option.some.inj e; omega)
    have hB9 := hB8.grown hG9 (fun e => by have := Option.some.inj e; omega)
    have hG09 := hG08.trans hG9
    clear hN8 hB8 hSB8 hG08 hG9
    go_wp2_with fail
    refine (odd_c _ _ _ _ _ hSB9 (by omega) (by omega) (by omega) (by omega) (by omega)).mono ?_; rintro e w10 ⟨y2, rfl, y20, y21, hSB10, hG10⟩
    have hN10 := hN9.grown hG10 (fun e => by have := Option.some.inj e; omega)
    have hB10 := hB9.grown hG10 (fun e => by have := Option.some.inj e; omega)
    have hG010 := hG09.trans hG10
    clear hN9 hB9 hSB9 hG09 hG10
    have c4 : w10.cell? ⟨g, 4, none⟩ = some (.int .i64 0) := hN10.cell 4
    have c5 : w10.cell? ⟨g, 5, none⟩ = some (.int .i64 50) := hN10.cell 5
    have f4 := hN10.free 4
    have f5 := hN10.free 5
    have hN11 : Bk ((w10.setCell ⟨g, 5, none⟩ (.int .i64 y1)).setCell ⟨g, 4, none⟩ (.int .i64 y2)) g 31 (boC (x, y, a, z, y2, y1)) := (hN10.set 5 _).set 4 _
    have hB11 := (hB10.far (p := ⟨g, 5, none⟩) (show w.heap.size ≠ g by omega) (.int .i64 y1)).far (p := ⟨g, 4, none⟩) (show w.heap.size ≠ g by omega) (.int .i64 y2)
    have hSB11 := (hSB10.setCell (p := ⟨g, 5, none⟩) hs2 (.int .i64 y1)).setCell (p := ⟨g, 4, none⟩) hs2 (.int .i64 y2)
    have hG011 := (hG010.setCell (p := ⟨g, 5, none⟩) (.inl hgw) (.int .i64 y1)).setCell (p := ⟨g, 4, none⟩) (.inl hgw) (.int .i64 y2)
    clear hN10 hB10 hSB10 hG010
    go_wp2_with (first | (refine wpList_load_row rfl 31 _ rfl g rfl 31 #[.string (x, y, a, z, y2, y1).1, .string (x, y, a, z, y2, y1).2.1, .int .i64 (x, y, a, z, y2, y1).2.2.1, .int .i64 (x, y, a, z, y2, y1).2.2.2.1, .int .i64 (x, y, a, z, y2, y1).2.2.2.2.1, .int .i64 (x, y, a, z, y2, y1).2.2.2.2.2] (0, 0) _ hN11 Tryd.underlying31 rfl (bo_info (x, y, a, z, y2, y1)) ?_) | (refine wpList_store_row rfl 31 _ _ rfl w.heap.size (boC (x, y, a, z, y2, y1)) rfl rfl 31 _ hB11 (bo_info (x, y, a, z, y2, y1)) rfl (bo_oneB (x, y, a, z, y2, y1)) ?_))
    refine bodyPost_ret (results_cell_row rfl _ _ w.heap.size 31 (boC (x, y, a, z, y2, y1)) (0, 0) _ rfl (hB11.setRow _) Tryd.underlying31 rfl (bo_info (x, y, a, z, y2, y1))) rfl ?_
    exact ⟨_, rfl, ⟨hxs, hys, HZ.out.1, HZ.out.2, ⟨y20, y21⟩, ⟨y10, y11⟩⟩, (hSB11.setRow hslt _).le (by omega), hG011.setRow (.inl (Nat.le_refl _)) _⟩
end Go.Proofs.YtndeidcddlmhbaaDoor

/- The law's own 'booked': the odds of one booking. -/
namespace Go.Proofs.YtndeidcddlmhbaaDoor
open Go.RowKit

def coE (l : List Bo) : Int := if boE l = 0 then (if 9 < l.length then 2 else 0) else boE l
set_option maxRecDepth 100000 in
set_option maxHeartbeats 1000000 in
theorem checkOdds_c (v : Value) (l : List Bo) (w : World) (hr : RdR w 6 boC v l) (hl : BoOk l) (hn : l.length ≤ 1000) :
    Calls Tryd.prog 133 #[v] w fun e w' => e = .returned (.int .i64 (coE l)) ∧ G w w' none := by
  have HR := Lib.hid hr
  obtain ⟨a, cap, rfl, hcap, hm⟩ := RdR.form hr
  clear hr
  go_enter Tryd.func133, Tryd.ntmps133
  go_wp2_with fail
  refine (checkForm_c _ l _ HR.out hl hn).mono ?_; rintro e w1 ⟨rfl, hG1⟩
  by_cases h0 : boE l = 0
  · have HE : Hid (coE l = if 9 < l.length then 2 else 0) := Lib.hid (by rw [coE, if_pos h0])
    rw [h0]
    clear h0
    by_cases h9 : 9 < l.length
    · have HF : Hid (coE l = 2) := Lib.hid (by rw [HE.out, if_pos h9])
      go_wp2_with fail
      go_ret
      exact ⟨by rw [HF.out]; rfl, hG1⟩
    · have HF : Hid (coE l = 0) := Lib.hid (by rw [HE.out, if_neg h9])
      go_wp2_with fail
      go_ret
      exact ⟨by rw [HF.out]; rfl, hG1⟩
  · have HF : Hid (coE l = boE l) := Lib.hid (by rw [coE, if_neg h0])
    have h0' : (boE l != 0) = true := by rw [bne_iff_ne]; exact h0
    clear h0
    generalize boE l = E at h0' HF ⊢
    go_wp2_with fail
    go_ret
    exact ⟨by rw [HF.out]; rfl, hG1⟩
def bo1 : Bo := (⟨#[97]⟩, ⟨#[99]⟩, 0, 1, 0, 50)
set_option maxRecDepth 100000 in
set_option maxHeartbeats 4000000 in
theorem casesOf1_c (w : World) (b : Nat) (h : Bk w b 31 (boC bo1)) :
    Calls Tryd.prog 134 #[.slice (some ⟨b, 0, none⟩) 1 1] w fun e w' => ∃ g, e = .returned (.tuple #[.slice (some ⟨g, 0, none⟩) 2 2, .int .i64 100]) ∧ Bk w' g 3 #[.int .i64 50, .int .i64 50] ∧ G w w' none := by
  have HA := Lib.hid h.at_
  have hb := h.lt
  have h1 := h.alloc (.cells #[.int .i64 1] 3)
  have hG1 := (G.refl w none).alloc (.cells #[.int .i64 1] 3)
  have hN1 := Bk.new w 3 #[.int .i64 1]
  have HA1 := Lib.hid h1.at_
  have hms : ∀ w : World, (Instr.makeSlice 22 (.int .i64 2) (.int .i64 2)).run Tryd.prog w = .ok (.slice (some ⟨w.heap.size, 0, none⟩) 2 2) (w.alloc (.cells #[.int .i64 0, .int .i64 0] 3)) := fun _ => by kernel_rfl
  clear h
  go_enter Tryd.func134, Tryd.ntmps134
  go_wp2_with fail
  refine wp_loop_rounds 2 ?_
  rw [rounds_succ]
  go_wp2_with (refine wpList_load_at rfl 31 _ rfl ⟨b, 0, none⟩ rfl #[.string ⟨#[97]⟩, .string ⟨#[99]⟩, .int .i64 0, .int .i64 1, .int .i64 0, .int .i64 50] _ HA1.out Tryd.underlying31 rfl (bo_info bo1) ?_)
  refine wp_loop_rounds 2 ?_
  rw [rounds_succ]
  go_wp2_with fail
  have hP : Bk (((w.alloc (.cells #[.int .i64 1] 3)).alloc (.cells #[.string ⟨#[97]⟩, .string ⟨#[99]⟩, .int .i64 0, .int .i64 1, .int .i64 0, .int .i64 50] 31)).alloc (.cells #[.int .i64 0, .int .i64 0] 3)) (w.heap.size + 1) 31 (boC bo1) := (Bk.newAt (w := w.alloc (.cells #[.int .i64 1] 3)) (b := w.heap.size + 1) (by simp) 31 (boC bo1)).alloc _
  have hN : Bk (((w.alloc (.cells #[.int .i64 1] 3)).alloc (.cells #[.string ⟨#[97]⟩, .string ⟨#[99]⟩, .int .i64 0, .int .i64 1, .int .i64 0, .int .i64 50] 31)).alloc (.cells #[.int .i64 0, .int .i64 0] 3)) (w.heap.size + 1 + 1) 3 #[.int .i64 0, .int .i64 0] := Bk.newAt (w := ((w.alloc (.cells #[.int .i64 1] 3)).alloc (.cells #[.string ⟨#[97]⟩, .string ⟨#[99]⟩, .int .i64 0, .int .i64 1, .int .i64 0, .int .i64 50] 31))) (b := w.heap.size + 1 + 1) (by simp) 3 #[.int .i64 0, .int .i64 0]
  have hO : Bk (((w.alloc (.cells #[.int .i64 1] 3)).alloc (.cells #[.string ⟨#[97]⟩, .string ⟨#[99]⟩, .int .i64 0, .int .i64 1, .int .i64 0, .int .i64 50] 31)).alloc (.cells #[.int .i64 0, .int .i64 0] 3)) w.heap.size 3 #[.int .i64 1] := ((Bk.new w 3 #[.int .i64 1]).alloc _).alloc _
  have hG : G w (((w.alloc (.cells #[.int .i64 1] 3)).alloc (.cells #[.string ⟨#[97]⟩, .string ⟨#[99]⟩, .int .i64 0, .int .i64 1, .int .i64 0, .int .i64 50] 31)).alloc (.cells #[.int .i64 0, .int .i64 0] 3)) none := (((G.refl w none).alloc _).alloc _).alloc _
  clear h1 hG1 hN1 HA HA1
  generalize (((w.alloc (.cells #[.int .i64 1] 3)).alloc (.cells #[.string ⟨#[97]⟩, .string ⟨#[99]⟩, .int .i64 0, .int .i64 1, .int .i64 0, .int .i64 50] 31)).alloc (.cells #[.int .i64 0, .int .i64 0] 3)) = w4 at hP hN hO hG ⊢
  have p5 : w4.cell? ⟨w.heap.size + 1, 5, none⟩ = some (.int .i64 50) := hP.cell 5
  have n0 : w4.cell? ⟨w.heap.size + 1 + 1, 0, none⟩ = some (.int .i64 0) := hN.cell 0
  have f0 : w4.frozen? ⟨w.heap.size + 1 + 1, 0, none⟩ = false := hN.free 0
  go_still_tail 11, (by kernel_rfl)
  change wpList _ _ _ _ _ w4.drew
  have hPd := hP.quiet ((G.refl w4 none).drew)
  have hOd := hO.quiet ((G.refl w4 none).drew)
  have hNd := hN.quiet ((G.refl w4 none).drew)
  have hGd := hG.drew
  clear hP hN hO hG p5 n0 f0
  generalize w4.drew = w5 at hPd hOd hNd hGd ⊢
  have n0 : w5.cell? ⟨w.heap.size + 1 + 1, 0, none⟩ = some (.int .i64 0) := hNd.cell 0
  have f0 : w5.frozen? ⟨w.heap.size + 1 + 1, 0, none⟩ = false := hNd.free 0
  have hN : Bk (w5.setCell ⟨w.heap.size + 1 + 1, 0, none⟩ (.int .i64 50)) (w.heap.size + 1 + 1) 3 #[.int .i64 50, .int .i64 0] := hNd.set 0 _
  have hP := hPd.far (p := ⟨w.heap.size + 1 + 1, 0, none⟩) (show w.heap.size + 1 ≠ w.heap.size + 1 + 1 by omega) (.int .i64 50)
  have hG := hGd.setCell (p := ⟨w.heap.size + 1 + 1, 0, none⟩) (.inl (show w.heap.size ≤ w.heap.size + 1 + 1 by omega)) (.int .i64 50)
  clear hPd hNd hOd hGd
  go_wp2_with fail
  generalize w5.setCell ⟨w.heap.size + 1 + 1, 0, none⟩ (.int .i64 50) = w6 at hP hN hG ⊢
  have p5 : w6.cell? ⟨w.heap.size + 1, 5, none⟩ = some (.int .i64 50) := hP.cell 5
  have n1 : w6.cell? ⟨w.heap.size + 1 + 1, 1, none⟩ = some (.int .i64 0) := hN.cell 1
  have hw1 : IntKind.i64.wrap 1 = 1 := by decide
  have f1 : w6.frozen? ⟨w.heap.size + 1 + 1, 1, none⟩ = false := hN.free 1
  go_still_tail 11, (by kernel_rfl)
  change wpList _ _ _ _ _ w6.drew
  have hNd := hN.quiet ((G.refl w6 none).drew)
  have hGd := hG.drew
  clear hP hN hG p5 n1 f1
  generalize w6.drew = w7 at hNd hGd ⊢
  have n1 : w7.cell? ⟨w.heap.size + 1 + 1, 1, none⟩ = some (.int .i64 0) := hNd.cell 1
  have f1 : w7.frozen? ⟨w.heap.size + 1 + 1, 1, none⟩ = false := hNd.free 1
  have hN : Bk (w7.setCell ⟨w.heap.size + 1 + 1, 1, none⟩ (.int .i64 50)) (w.heap.size + 1 + 1) 3 #[.int .i64 50, .int .i64 50] := hNd.set 1 _
  have hG := hGd.setCell (p := ⟨w.heap.size + 1 + 1, 1, none⟩) (.inl (show w.heap.size ≤ w.heap.size + 1 + 1 by omega)) (.int .i64 50)
  clear hNd hGd
  go_wp2_with fail
  rw [rounds_succ]
  go_wp2_with fail
  rw [rounds_succ]
  go_wp2_with fail
  go_ret2
  exact ⟨_, rfl, hN, hG⟩
theorem bo1_ok : boB bo1 := ⟨small_of (by decide), small_of (by decide), by unfold bnd bo1; dsimp only; omega, by unfold bnd bo1; dsimp only; omega, by unfold bnd bo1; dsimp only; omega, by unfold bnd bo1; dsimp only; omega⟩
theorem coE_one : coE [bo1] = 0 := by
  have h1 : boE [bo1] = 0 := by
    show boErr ⟨#[]⟩ [bo1] = 0
    unfold boErr bo1
    dsimp only
    rw [if_neg (by rw [show keyB ⟨#[97]⟩ = true by decide]; decide), if_neg (by rw [show keyB ⟨#[99]⟩ = true by decide]; decide), if_neg (by rw [leB_cmp]; decide), if_neg (by decide)]
    rfl
  rw [coE, if_pos h1, if_neg (by decide)]
/-! A row of fractions that the call owns. -/
abbrev Fr := Int × Int
def frV (x : Fr) : Array Value := frC x.1 x.2
theorem frV_sz (x : Fr) : (frV x).size = 2 := rfl
abbrev OwnFr (w : World) (base : Nat) (v : Value) (l : List Fr) : Prop := w.ownsRow base 134 2 v l.length (rowL frV l)
theorem fr_row : (Tryd.prog.info? 134).map (fun i => (i.zero, i.size, i.bytes)) = some (some (.agg (frC 0 0)), 2, 16) := by kernel_rfl
theorem frV_one (r : Fr) : ∀ u ∈ (frV r).toList, u.oneCell' = true := by
  intro u hu
  simp [frV, frC] at hu
  rcases hu with rfl | rfl <;> rfl
theorem wp_append_fr {w : World} {o : Oper} {a : Act} {K : Act → World → Prop} {Q : Exit → Act → World → Prop} (s x : Operand)
    (ho : o.op = .call { callee := .builtin .append, args := #[s, x], argTypes := #[129, 129] }) (base : Nat) (v : Value) (l : List Fr) (hs : a.eval s = v) (hown : OwnFr w base v l)
    (g : Nat) (r : Fr) (hx : a.eval x = .slice (some ⟨g, 0, none⟩) 1 1) (hb : Bk w g 134 (frV r)) (hl : l.length ≤ 1000) (hbase : base ≤ w.heap.size)
    (hK : ∀ v' w', OwnFr w' base v' (l ++ [r]) → w.grownBy w' v.ownBlock → K (a.put o.dst v') w') : o.wp Tryd.prog a w K Q := by
  obtain ⟨i0, hi, hz0, hz1, hz2⟩ := info_parts fr_row
  refine wp_append_own w s x 129 ho base 134 i0 _ 2 16 Tryd.underlying129 hi hz0 hz1 hz2 rfl (by decide) v l.length (rowL frV l) hs hown ⟨g, 0, none⟩ 1 1 (frV r).toList hx rfl hb.at_ (frV_one r) (by unfold maxLen; omega) (by omega) hbase ?_
  intro v' w' h1 h2 _
  refine hK v' w' ?_ h2
  unfold OwnFr
  rw [List.length_append, rowL_snoc]
  exact h1
theorem OwnFr.alloc {w : World} {base : Nat} {v : Value} {l : List Fr} (h : OwnFr w base v l) (o : Obj) : OwnFr (w.alloc o) base v l := World.ownsRow.alloc h o
theorem OwnFr.quiet {w w' : World} {base : Nat} {v : Value} {l : List Fr} (h : OwnFr w base v l) (hg : G w w' none) : OwnFr w' base v l :=
  World.ownsRow.kept h hg (Classical.em _)
set_option maxRecDepth 100000 in
set_option maxHeartbeats 4000000 in
theorem spread1_c (w : World) (b : Nat) (h : Bk w b 31 (boC bo1)) :
    Calls Tryd.prog 87 #[.slice (some ⟨b, 0, none⟩) 1 1] w fun e w' => ∃ v, e = .returned (.tuple #[v, .int .i64 0]) ∧ OwnFr w' w.heap.size v [(1, 2), (1, 2)] ∧ G w w' none := by
  go_enter Tryd.func87, Tryd.ntmps87
  go_wp2_with fail
  refine (checkOdds_c _ [bo1] _ (RdR.one h) (BoOk.one bo1_ok) (one_len bo1)).mono ?_; rintro e w1 ⟨rfl, hG1⟩
  rw [coE_one]
  have h1 := h.quiet hG1
  go_wp2_with fail
  refine (casesOf1_c _ b h1).mono ?_; rintro e w2 ⟨g, rfl, hN2, hG2⟩
  have hG02 := hG1.trans hG2
  clear hG1 hG2 h h1
  have c0 : w2.cell? ⟨g, 0, none⟩ = some (.int .i64 50) := hN2.cell 0
  go_wp2_with fail
  refine wp_loop_rounds 3 ?_
  rw [rounds_succ]
  go_wp2_with fail
  refine (lowest_c 50 100 _ (by omega) (by omega) (by omega)).mono ?_; rintro e w3 ⟨rfl, hG3⟩
  rw [show frC ((50 / Nat.gcd 100 50 : Nat) : Int) ((100 / Nat.gcd 100 50 : Nat) : Int) = #[.int .i64 1, .int .i64 2] by rfl]
  have hN3 := (hN2.quiet hG3).alloc (.cells #[.int .i64 1, .int .i64 2] 134)
  have hG03 := (hG02.trans hG3).alloc (.cells #[.int .i64 1, .int .i64 2] 134)
  have hz3 := hG03.size
  clear hN2 hG02 hG3 c0
  go_wp2_with (at_builtin; refine wpList_plain rfl fun K' hK' => wp_append_fr _ _ rfl w.heap.size (.slice none 0 0) [] rfl (World.ownsRow_nil _ _ _ _) w3.heap.size (1, 2) rfl (Bk.new w3 _ _) (by simp) hz3 ?_; intro v1 w4 hown1 hgrow1; refine hK' _ _ ?_)
  have hN4 := hN3.quiet hgrow1
  have hG04 := hG03.trans hgrow1
  clear hN3 hG03 hz3 hgrow1
  have c1 : w4.cell? ⟨g, 1, none⟩ = some (.int .i64 50) := hN4.cell 1
  rw [rounds_succ]
  go_wp2_with fail
  refine (lowest_c 50 100 _ (by omega) (by omega) (by omega)).mono ?_; rintro e w5 ⟨rfl, hG5⟩
  rw [show frC ((50 / Nat.gcd 100 50 : Nat) : Int) ((100 / Nat.gcd 100 50 : Nat) : Int) = #[.int .i64 1, .int .i64 2] by rfl]
  have hown2 := (hown1.quiet hG5).alloc (.cells #[.int .i64 1, .int .i64 2] 134)
  have hG05 := (hG04.trans hG5).alloc (.cells #[.int .i64 1, .int .i64 2] 134)
  have hz5 := hG05.size
  clear hN4 hG04 hG5 c1 hown1
  go_wp2_with (at_builtin; refine wpList_plain rfl fun K' hK' => wp_append_fr _ _ rfl w.heap.size v1 [(1, 2)] rfl hown2 w5.heap.size (1, 2) rfl (Bk.new w5 _ _) (by simp) hz5 ?_; intro v2 w6 hown3 hgrow2; refine hK' _ _ ?_)
  have hG06 := hG05.other hgrow2 (fun j e => .inl (World.ownsRow.lt hown2 j e).1)
  rw [rounds_succ]
  go_wp2_with fail
  go_ret2
  exact ⟨_, rfl, hown3, hG06⟩
theorem fr_neq (x y : Fr) (w : World) : (binOp .neq 134 (.agg (frV x)) (.agg (frV y))).run Tryd.prog w = .ok (.bool (!(decide (x = y)))) w := by
  obtain ⟨a, b⟩ := x
  obtain ⟨c, d⟩ := y
  have ht : Tryd.prog.underlying 134 = some (.struct (Tryd.prog.fieldsOf 134)) := by kernel_rfl
  have hp : Tryd.prog.stoodInHeld 134 = false := by kernel_rfl
  rw [run_neq_struct, run_equalIn_agg w 9999 134 _ _ ht hp]
  simp [frV, frC, Tryd.underlying134, Tryd.underlying3, go_sem]
  by_cases h1 : a = c <;> by_cases h2 : b = d <;> simp [h1, h2]
def EqfRel (l m : List Fr) (w : World) (i : Value) (wr : World) : Prop := ∃ k n : Nat, k ≤ l.length ∧ i = .int .i64 k ∧ l.take k = m.take k ∧ wr = w.drewN n
theorem take_succ_eq {l m : List Fr} {k : Nat} {x : Fr} (h : l.take k = m.take k) (hx : l[k]? = some x) (hy : m[k]? = some x) : l.take (k + 1) = m.take (k + 1) := by
  rw [List.take_add_one, List.take_add_one, h, hx, hy]
set_option maxRecDepth 100000 in
set_option maxHeartbeats 4000000 in
theorem frEqual_c (v u : Value) (l m : List Fr) (w : World) (hr : RdR w 2 frV v l) (hs : RdR w 2 frV u m) (hn : l.length ≤ 1000000) :
    Calls Tryd.prog 88 #[v, u] w fun e w' => e = .returned (.bool (decide (l = m))) ∧ G w w' none := by
  have HR := Lib.hid hr
  have HS := Lib.hid hs
  obtain ⟨a, cap, rfl, hcap, hm1⟩ := RdR.form hr
  obtain ⟨a2, cap2, rfl, hcap2, hm2⟩ := RdR.form hs
  clear hr hs
  by_cases hlen : l.length = m.length
  · have hlq : ((l.length : Int) != (m.length : Int)) = false := by rw [hlen]; simp
    have hlq2 : ((m.length : Int) != (l.length : Int)) = false := by rw [hlen]; simp
    have HL := Lib.hid hlen
    clear hlen
    go_enter Tryd.func88, Tryd.ntmps88
    go_wp2_with fail
    go_loopw [13] (EqfRel l m w) (fun i _ => l.length - (intOf i).toNat)
    case atStart => exact ⟨0, 0, by omega, rfl, rfl, rfl⟩
    case round =>
      obtain ⟨k, n, hk, rfl, heq, rfl⟩ := hrel
      have HE := Lib.hid heq
      clear heq
      by_cases hlt : k < l.length
      · obtain ⟨x, hx⟩ : ∃ x, l[k]? = some x := ⟨_, List.getElem?_eq_getElem hlt⟩
        obtain ⟨y, hy⟩ : ∃ y, m[k]? = some y := ⟨_, List.getElem?_eq_getElem (by rw [← HL.out]; exact hlt)⟩
        have hlt2 : k < m.length := by have := HL.out; omega
        obtain ⟨bb, bo, rfl, hbb, _⟩ := RdR.elem frV_sz HR.out (G.refl w none) hx
        obtain ⟨b2, o2, rfl, hb2, _⟩ := RdR.elem frV_sz HS.out (G.refl w none) hy
        have d0 := RdR.cell frV_sz HR.out (G.refl w none) hx 0 (.int .i64 x.1) rfl
        have d1 := RdR.cell frV_sz HR.out (G.refl w none) hx 1 (.int .i64 x.2) rfl
        have e0 := RdR.cell frV_sz HS.out (G.refl w none) hy 0 (.int .i64 y.1) rfl
        have e1 := RdR.cell frV_sz HS.out (G.refl w none) hy 1 (.int .i64 y.2) rfl
        simp only [Nat.add_zero] at d0 e0
        have HX := Lib.hid hx
        have HY := Lib.hid hy
        clear hx hy
        by_cases hxy : x = y
        · have hnq : ∀ w : World, (binOp .neq 134 (.agg #[.int .i64 x.1, .int .i64 x.2]) (.agg #[.int .i64 y.1, .int .i64 y.2])).run Tryd.prog w = .ok (.bool false) w := fun w => by
            have := fr_neq x y w
            rw [decide_eq_true hxy] at this
            exact this
          have HT : Hid (l.take (k + 1) = m.take (k + 1)) := Lib.hid (take_succ_eq HE.out HX.out (by rw [hxy]; exact HY.out))
          clear hxy HX HY
          go_wp2_with fail
          go_quiet (fail)
          go_wp2_with fail
          go_roundw
          case rel => exact ⟨k + 1, _, by omega, by go_num, HT.out, rfl⟩
          case measure => simp [intOf]; omega
        · have hnq : ∀ w : World, (binOp .neq 134 (.agg #[.int .i64 x.1, .int .i64 x.2]) (.agg #[.int .i64 y.1, .int .i64 y.2])).run Tryd.prog w = .ok (.bool true) w := fun w => by
            have := fr_neq x y w
            rw [decide_eq_false hxy] at this
            exact this
          have HT : Hid (decide (l = m) = false) := Lib.hid (decide_eq_false (fun e => hxy (by have h1 := HX.out; rw [e, HY.out] at h1; exact (Option.some.inj h1).symm)))
          clear hxy HX HY
          go_wp2_with fail
          go_quiet (fail)
          go_wp2_with fail
          go_ret
          exact ⟨ret_bool HT.out.symm, ((G.refl _ _).drewN _).drewN _⟩
      · obtain rfl : k = l.length := by omega
        have HT : Hid (decide (l = m) = true) := Lib.hid (decide_eq_true (by have h := HE.out; rwa [List.take_length, HL.out, List.take_length] at h))
        go_wp2_with fail
        go_ret
        exact ⟨ret_bool HT.out.symm, (G.refl _ _).drewN _⟩
  · have hlq : ((l.length : Int) != (m.length : Int)) = true := by rw [bne_iff_ne]; omega
    have hlq2 : ¬ l.length = m.length := hlen
    have HT : Hid (decide (l = m) = false) := Lib.hid (decide_eq_false (fun e => hlen (by rw [e])))
    clear hlen
    go_enter Tryd.func88, Tryd.ntmps88
    go_wp2_with fail
    go_ret
    exact ⟨ret_bool HT.out.symm, G.refl _ _⟩
set_option maxRecDepth 100000 in
set_option maxHeartbeats 4000000 in
theorem booked_c (w : World) : Calls Tryd.prog 23 #[] w fun e w' => e = .returned (.bool true) ∧ G w w' none := by
  have hB := Bk.new w 31 (boC bo1)
  have hG := (G.refl w none).alloc (.cells (boC bo1) 31)
  go_enter Tryd.func23, Tryd.ntmps23
  go_wp2_with fail
  refine (spread1_c _ _ hB).mono ?_; rintro e w1 ⟨v, rfl, hown, hG1⟩
  have hG01 := hG.trans hG1
  have hown2 := hown.alloc (.cells #[.int .i64 1, .int .i64 2, .int .i64 1, .int .i64 2] 134)
  have hN2 : Bk (w1.alloc (.cells #[.int .i64 1, .int .i64 2, .int .i64 1, .int .i64 2] 134)) w1.heap.size 134 #[.int .i64 1, .int .i64 2, .int .i64 1, .int .i64 2] := Bk.new _ _ _
  have hG02 := hG01.alloc (.cells #[.int .i64 1, .int .i64 2, .int .i64 1, .int .i64 2] 134)
  go_wp2_with fail
  refine (frEqual_c v _ [(1, 2), (1, 2)] [(1, 2), (1, 2)] _ (Rd.of_owns hown2) (hN2.rd 2 2 rfl (by omega)) (by decide)).mono ?_; rintro e w3 ⟨rfl, hG3⟩
  rw [show decide (([(1, 2), (1, 2)] : List Fr) = [(1, 2), (1, 2)]) = true by decide]
  go_wp2_with fail
  go_ret
  exact ⟨rfl, hG02.trans hG3⟩
end Go.Proofs.YtndeidcddlmhbaaDoor

/- The law CancelsCost. -/
namespace Go.Proofs.YtndeidcddlmhbaaDoor
open Go.RowKit

theorem cf_errs (l : List Ti) (b : Bo) (c t : Int) (q : Int) (hq : q = if inB c 0 1000000000 = true then 0 else 1) : errsOf [tiE l, boE [b], q, momE t] = cfE l b c t := by
  subst hq
  unfold cfE momE
  show (if tiE l = 0 then (if boE [b] = 0 then (if (if inB c 0 1000000000 = true then (0 : Int) else 1) = 0 then (if (if momB t = true then (0 : Int) else 1) = 0 then 0 else (if momB t = true then 0 else 1)) else (if inB c 0 1000000000 = true then 0 else 1)) else boE [b]) else tiE l) = _
  cases inB c 0 1000000000 <;> cases momB t <;> simp
theorem cf_zero {l : List Ti} {b : Bo} {c t : Int} (h : cfE l b c t = 0) : tiE l = 0 ∧ boE [b] = 0 ∧ (0 ≤ c ∧ c ≤ 1000000000) ∧ (0 ≤ t ∧ t < 5761440) := by
  unfold cfE at h
  split at h
  · rename_i h1
    split at h
    · rename_i h2
      split at h
      · exact absurd h (by decide)
      · rename_i h3
        split at h
        · exact absurd h (by decide)
        · rename_i h4
          simp only [inB, Bool.not_eq_false, Bool.and_eq_true, decide_eq_true_eq] at h3
          simp only [momB, Bool.not_eq_false, Bool.and_eq_true, decide_eq_true_eq] at h4
          exact ⟨h1, h2, h3, h4⟩
    · rename_i h2; exact absurd h h2
  · rename_i h1; exact absurd h h1
/-- What stands throughout: the tiers, the booking. -/
def CInv (W : World) (v : Value) (l : List Ti) (g : Nat) (b : Bo) (w : World) : Prop := RdR w 2 tiC v l ∧ Bk w g 31 (boC b) ∧ G W w none
theorem CInv.quiet {W w w' : World} {v : Value} {l : List Ti} {g : Nat} {b : Bo} (h : CInv W v l g b w) (hG : G w w' none) : CInv W v l g b w' := ⟨h.1.quiet hG, h.2.1.quiet hG, h.2.2.trans hG⟩
set_option maxRecDepth 100000 in
set_option maxHeartbeats 16000000 in
theorem cancelsCost_c (a : Option Addr) (n c : Nat) (zs : List Int) (W : World) (hr : Rd W 1 (.slice a n c) n (zs.map (Value.int .i64))) (hz : ∀ z ∈ zs, -9223372036854775808 ≤ z ∧ z ≤ 9223372036854775807) :
    Calls Tryd.prog 3 #[.slice a n c] W fun e W' => e = .returned (.bool true) ∧ G W W' none := by
  have hSB : SB (W.alloc (.cells #[.slice a n c, .int .i64 0] 25)) W.heap.size 0 := by
    have hB := Bk.new W 25 #[.slice a n c, .int .i64 0]
    refine ⟨0, a, n, c, zs, Nat.le_refl _, hr.quiet ((G.refl _ _).alloc _), fun b e => ?_, hz, hB.cell 0, hB.cell 1, hB.free 1, hB.lt⟩
    obtain ⟨a', c', e', r1, r2, r3, r4, r5⟩ := hr
    cases e'
    exact (r5 b e).2.1
  have hG0 : G W (W.alloc (.cells #[.slice a n c, .int .i64 0] 25)) (some W.heap.size) := (G.refl _ _).alloc _
  clear hr hz
  go_enter Tryd.func3, Tryd.ntmps3
  go_wp2_with fail
  refine (tiers_c _ W.heap.size 0 hSB (by omega)).mono ?_; rintro e w1 ⟨v, l, rfl, hrd, hln, hvb, hSB1, hG1⟩
  have hvs : v.ownBlock ≠ some W.heap.size := fun e => by have := hvb _ e; simp at this; omega
  have hG01 := hG0.trans hG1
  clear hSB hG0 hG1 hvb
  go_wp2_with fail
  refine (more_c _ W.heap.size _ hSB1 (by omega)).mono ?_; rintro e w2 ⟨b, rfl, hb, hSB2, hG2⟩
  rw [show boC b = #[.string b.1, .string b.2.1, .int .i64 b.2.2.1, .int .i64 b.2.2.2.1, .int .i64 b.2.2.2.2.1, .int .i64 b.2.2.2.2.2] from rfl]
  have HB := Lib.hid hb
  have hrd2 := hrd.grown hG2 (fun q e => by cases e; exact hvs)
  have hG02 := hG01.trans hG2
  clear hSB1 hG01 hG2 hrd hb
  go_wp2_with fail
  refine (pick_c _ _ _ [0, 999, 10000, 1000000000, -1, 1000000001] _ _ _ (hSB2.alloc _) (by omega) (by decide) (by decide) (Rd.newAt _ rfl rfl (by decide)) (hSB2.newAt _ _ _ (Nat.le_refl _))).mono ?_; rintro e w3 ⟨c, rfl, hc, hSB3, hG3⟩
  have hc0 : -1 ≤ c ∧ c ≤ 1000000001 := by simp only [List.mem_cons, List.mem_nil_iff, or_false] at hc; omega
  obtain ⟨c0, c1⟩ := hc0
  have hrd3 := (hrd2.quiet ((G.refl w2 none).alloc _)).grown hG3 (fun q e => by cases e; exact hvs)
  have hG03 := (hG02.alloc _).trans hG3
  clear hSB2 hG02 hG3 hrd2 hc
  go_wp2_with fail
  refine (moment_c _ W.heap.size _ hSB3 (by omega)).mono ?_; rintro e w4 ⟨t, rfl, t0, t1, hSB4, hG4⟩
  have hrd4 := hrd3.grown hG4 (fun q e => by cases e; exact hvs)
  have hG04 := hG03.trans hG4
  clear hSB3 hG03 hG4 hrd3
  have hrd5 := hrd4.quiet ((G.refl w4 none).alloc (.cells #[.string b.1, .string b.2.1, .int .i64 b.2.2.1, .int .i64 b.2.2.2.1, .int .i64 b.2.2.2.2.1, .int .i64 b.2.2.2.2.2] 31))
  have hN5 : Bk (w4.alloc (.cells #[.string b.1, .string b.2.1, .int .i64 b.2.2.1, .int .i64 b.2.2.2.1, .int .i64 b.2.2.2.2.1, .int .i64 b.2.2.2.2.2] 31)) w4.heap.size 31 (boC b) := Bk.new _ _ _
  have hSB5 := hSB4.alloc (.cells #[.string b.1, .string b.2.1, .int .i64 b.2.2.1, .int .i64 b.2.2.2.1, .int .i64 b.2.2.2.2.1, .int .i64 b.2.2.2.2.2] 31)
  have hG05 := hG04.alloc (.cells #[.string b.1, .string b.2.1, .int .i64 b.2.2.1, .int .i64 b.2.2.2.1, .int .i64 b.2.2.2.2.1, .int .i64 b.2.2.2.2.2] 31)
  have hs4 := hSB4.lt
  clear hrd4 hSB4 hG04
  go_wp2_with fail
  refine (flip_c _ _ _ _ hSB5 (by omega) (by omega)).mono ?_; rintro e w6 ⟨q, rfl, hSB6, hG6⟩
  have hrd6 := hrd5.grown hG6 (fun q e => by cases e; exact hvs)
  have hN6 := hN5.grown hG6 (fun e => by have := Option.some.inj e; omega)
  have hG06 := hG05.trans hG6
  clear hrd5 hN5 hSB5 hG05 hG6
  generalize w4.heap.size = g at hN6 hs4 ⊢
  cases q with
  | false =>
    have hI : CInv W v l g b w6 := ⟨hrd6, hN6, G.own hG06 (Nat.le_refl _)⟩
    clear hrd6 hN6 hG06 hSB6 hs4
    go_wp2_with (refine wpList_load_row rfl 31 _ rfl g rfl 31 #[.string b.1, .string b.2.1, .int .i64 b.2.2.1, .int .i64 b.2.2.2.1, .int .i64 b.2.2.2.2.1, .int .i64 b.2.2.2.2.2] (0, 0) _ hI.2.1 Tryd.underlying31 rfl (bo_info b) ?_)
    refine (cancelFee_c v l b c t _ hI.1 (by omega) HB.out).mono ?_; rintro e x1 ⟨rfl, hH⟩
    have hI := hI.quiet hH
    clear hH
    go_wp2_with fail
    refine (tiersFault_c v l _ hI.1 (by omega)).mono ?_; rintro e x2 ⟨rfl, hH⟩
    have hI := hI.quiet hH
    clear hH
    go_wp2_with fail
    refine (checkTiers_c v l _ hI.1 (by omega)).mono ?_; rintro e x3 ⟨rfl, hH⟩
    have hI := hI.quiet hH
    clear hH
    go_wp2_with (refine wpList_load_row rfl 31 _ rfl g rfl 31 #[.string b.1, .string b.2.1, .int .i64 b.2.2.1, .int .i64 b.2.2.2.1, .int .i64 b.2.2.2.2.1, .int .i64 b.2.2.2.2.2] (0, 0) _ hI.2.1 Tryd.underlying31 rfl (bo_info b) ?_)
    have hN8 : Bk (x3.alloc (.cells #[.string b.1, .string b.2.1, .int .i64 b.2.2.1, .int .i64 b.2.2.2.1, .int .i64 b.2.2.2.2.1, .int .i64 b.2.2.2.2.2] 31)) x3.heap.size 31 (boC b) := Bk.new _ _ _
    have hI := hI.quiet ((G.refl x3 none).alloc (.cells #[.string b.1, .string b.2.1, .int .i64 b.2.2.1, .int .i64 b.2.2.2.1, .int .i64 b.2.2.2.2.1, .int .i64 b.2.2.2.2.2] 31))
    refine (bookingForm_c _ [b] _ (RdR.one hN8) (BoOk.one HB.out) (one_len b)).mono ?_; rintro e x4 ⟨rfl, hH⟩
    have hI := hI.quiet hH
    clear hH hN8
    rcases (show c < 0 ∨ (0 ≤ c ∧ 1000000000 < c) ∨ (0 ≤ c ∧ c ≤ 1000000000) by omega) with k1 | ⟨k1, k2⟩ | ⟨k1, k2⟩
    · have hone := cf_errs l b c t 1 (by rw [inB, decide_eq_false (show ¬ 0 ≤ c by omega)]; rfl)
      go_wp2_with fail
      refine (when_t _ _).mono ?_; rintro e w' ⟨rfl, rfl⟩
      have hI := hI.quiet ((G.refl x4 none).alloc (.cells #[.int .i64 (tiE l), .int .i64 (boE [b]), .int .i64 1, .int .i64 (momE t)] 36))
      go_wp2_with fail
      refine (momentFault_c _ _).mono ?_; rintro e w' ⟨rfl, rfl⟩
      go_wp2_with fail
      refine (errs_c [tiE l, boE [b], 1, momE t] _ _ (Rd.new #[.int .i64 (tiE l), .int .i64 (boE [b]), .int .i64 1, .int .i64 (momE t)] rfl (by show 4 ≤ maxLen; decide)) (by simp)).mono ?_; rintro e w' ⟨rfl, rfl⟩
      rw [hone]
      clear hone
      generalize x4.alloc (.cells #[.int .i64 (tiE l), .int .i64 (boE [b]), .int .i64 1, .int .i64 (momE t)] 36) = x5 at hI ⊢
      by_cases hE : cfE l b c t = 0
      · obtain ⟨z1, z2, ⟨z3, z4⟩, z5, z6⟩ := cf_zero hE
        obtain ⟨z7, z8⟩ := boE_ok z2
        have hN : cfN l b c t = c * cnP l (b.2.2.1 - t) / 1000 := by rw [cfN, if_pos hE]
        have Z1 := Lib.hid z1
        rw [hE, hN]
        clear hE hN z1 z2
        go_wp2_with (refine wpList_load_row rfl 31 _ rfl g rfl 31 #[.string b.1, .string b.2.1, .int .i64 b.2.2.1, .int .i64 b.2.2.2.1, .int .i64 b.2.2.2.2.1, .int .i64 b.2.2.2.2.2] (0, 0) _ hI.2.1 Tryd.underlying31 rfl (bo_info b) ?_)
        refine (cancelOf_c v l b c t _ hI.1 (by omega) Z1.out z7 z8 z5 z6 z3 z4).mono ?_; rintro e x6 ⟨rfl, hH⟩
        have hI := hI.quiet hH
        clear hH
        generalize c * cnP l (b.2.2.1 - t) / 1000 = N
        go_wp2_with fail
        refine (booked_c _).mono ?_; rintro e x7 ⟨rfl, hH⟩
        go_wp2_with fail
        go_ret
        exact ⟨rfl, hI.2.2.trans hH⟩
      · have hN : cfN l b c t = 0 := by rw [cfN, if_neg hE]
        have hE' : (cfE l b c t == 0) = false := by simpa using hE
        rw [hN]
        clear hN hE
        generalize cfE l b c t = E at hE' ⊢
        go_wp2_with fail
        refine (booked_c _).mono ?_; rintro e x7 ⟨rfl, hH⟩
        go_wp2_with fail
        go_ret
        exact ⟨rfl, hI.2.2.trans hH⟩
    · have hone := cf_errs l b c t 1 (by rw [inB, decide_eq_false (show ¬ c ≤ 1000000000 by omega), Bool.and_false]; rfl)
      go_wp2_with fail
      refine (when_t _ _).mono ?_; rintro e w' ⟨rfl, rfl⟩
      have hI := hI.quiet ((G.refl x4 none).alloc (.cells #[.int .i64 (tiE l), .int .i64 (boE [b]), .int .i64 1, .int .i64 (momE t)] 36))
      go_wp2_with fail
      refine (momentFault_c _ _).mono ?_; rintro e w' ⟨rfl, rfl⟩
      go_wp2_with fail
      refine (errs_c [tiE l, boE [b], 1, momE t] _ _ (Rd.new #[.int .i64 (tiE l), .int .i64 (boE [b]), .int .i64 1, .int .i64 (momE t)] rfl (by show 4 ≤ maxLen; decide)) (by simp)).mono ?_; rintro e w' ⟨rfl, rfl⟩
      rw [hone]
      clear hone
      generalize x4.alloc (.cells #[.int .i64 (tiE l), .int .i64 (boE [b]), .int .i64 1, .int .i64 (momE t)] 36) = x5 at hI ⊢
      by_cases hE : cfE l b c t = 0
      · obtain ⟨z1, z2, ⟨z3, z4⟩, z5, z6⟩ := cf_zero hE
        obtain ⟨z7, z8⟩ := boE_ok z2
        have hN : cfN l b c t = c * cnP l (b.2.2.1 - t) / 1000 := by rw [cfN, if_pos hE]
        have Z1 := Lib.hid z1
        rw [hE, hN]
        clear hE hN z1 z2
        go_wp2_with (refine wpList_load_row rfl 31 _ rfl g rfl 31 #[.string b.1, .string b.2.1, .int .i64 b.2.2.1, .int .i64 b.2.2.2.1, .int .i64 b.2.2.2.2.1, .int .i64 b.2.2.2.2.2] (0, 0) _ hI.2.1 Tryd.underlying31 rfl (bo_info b) ?_)
        refine (cancelOf_c v l b c t _ hI.1 (by omega) Z1.out z7 z8 z5 z6 z3 z4).mono ?_; rintro e x6 ⟨rfl, hH⟩
        have hI := hI.quiet hH
        clear hH
        generalize c * cnP l (b.2.2.1 - t) / 1000 = N
        go_wp2_with fail
        refine (booked_c _).mono ?_; rintro e x7 ⟨rfl, hH⟩
        go_wp2_with fail
        go_ret
        exact ⟨rfl, hI.2.2.trans hH⟩
      · have hN : cfN l b c t = 0 := by rw [cfN, if_neg hE]
        have hE' : (cfE l b c t == 0) = false := by simpa using hE
        rw [hN]
        clear hN hE
        generalize cfE l b c t = E at hE' ⊢
        go_wp2_with fail
        refine (booked_c _).mono ?_; rintro e x7 ⟨rfl, hH⟩
        go_wp2_with fail
        go_ret
        exact ⟨rfl, hI.2.2.trans hH⟩
    · have hone := cf_errs l b c t 0 (by rw [inB, decide_eq_true k1, decide_eq_true k2]; rfl)
      go_wp2_with fail
      rw [show (decide (c < 0) || decide (1000000000 < c)) = false by rw [decide_eq_false (show ¬ c < 0 by omega), decide_eq_false (show ¬ 1000000000 < c by omega)]; rfl]
      refine (when_f _ _).mono ?_; rintro e w' ⟨rfl, rfl⟩
      have hI := hI.quiet ((G.refl x4 none).alloc (.cells #[.int .i64 (tiE l), .int .i64 (boE [b]), .int .i64 0, .int .i64 (momE t)] 36))
      go_wp2_with fail
      refine (momentFault_c _ _).mono ?_; rintro e w' ⟨rfl, rfl⟩
      go_wp2_with fail
      refine (errs_c [tiE l, boE [b], 0, momE t] _ _ (Rd.new #[.int .i64 (tiE l), .int .i64 (boE [b]), .int .i64 0, .int .i64 (momE t)] rfl (by show 4 ≤ maxLen; decide)) (by simp)).mono ?_; rintro e w' ⟨rfl, rfl⟩
      rw [hone]
      clear hone
      generalize x4.alloc (.cells #[.int .i64 (tiE l), .int .i64 (boE [b]), .int .i64 0, .int .i64 (momE t)] 36) = x5 at hI ⊢
      by_cases hE : cfE l b c t = 0
      · obtain ⟨z1, z2, ⟨z3, z4⟩, z5, z6⟩ := cf_zero hE
        obtain ⟨z7, z8⟩ := boE_ok z2
        have hN : cfN l b c t = c * cnP l (b.2.2.1 - t) / 1000 := by rw [cfN, if_pos hE]
        have Z1 := Lib.hid z1
        rw [hE, hN]
        clear hE hN z1 z2
        go_wp2_with (refine wpList_load_row rfl 31 _ rfl g rfl 31 #[.string b.1, .string b.2.1, .int .i64 b.2.2.1, .int .i64 b.2.2.2.1, .int .i64 b.2.2.2.2.1, .int .i64 b.2.2.2.2.2] (0, 0) _ hI.2.1 Tryd.underlying31 rfl (bo_info b) ?_)
        refine (cancelOf_c v l b c t _ hI.1 (by omega) Z1.out z7 z8 z5 z6 z3 z4).mono ?_; rintro e x6 ⟨rfl, hH⟩
        have hI := hI.quiet hH
        clear hH
        generalize c * cnP l (b.2.2.1 - t) / 1000 = N
        go_wp2_with fail
        refine (booked_c _).mono ?_; rintro e x7 ⟨rfl, hH⟩
        go_wp2_with fail
        go_ret
        exact ⟨rfl, hI.2.2.trans hH⟩
      · have hN : cfN l b c t = 0 := by rw [cfN, if_neg hE]
        have hE' : (cfE l b c t == 0) = false := by simpa using hE
        rw [hN]
        clear hN hE
        generalize cfE l b c t = E at hE' ⊢
        go_wp2_with fail
        refine (booked_c _).mono ?_; rintro e x7 ⟨rfl, hH⟩
        go_wp2_with fail
        go_ret
        exact ⟨rfl, hI.2.2.trans hH⟩
  | true =>
    have hbf := HB.out.2.2.1
    unfold bnd at hbf
    obtain ⟨f0, f1⟩ := hbf
    have cf : w6.cell? ⟨g, 2, none⟩ = some (.int .i64 b.2.2.1) := hN6.cell 2
    have hSBd := hSB6.quiet ((G.refl w6 none).drew)
    have HND := Lib.hid (hN6.quiet ((G.refl w6 none).drew))
    have HRD := Lib.hid (hrd6.quiet ((G.refl w6 none).drew))
    have hGd := hG06.drew
    go_wp2_with fail
    go_region_held3 (fun w' => w'.cell? ⟨g, 2, none⟩ = some (.int .i64 b.2.2.1)) (first | exact cf | exact cf7 | go_keep) (first | (go_at_call 12; refine (pick_c _ _ _ [0, 1, 8, 9, 10, 59, 60, 999, 1000] _ _ _ (hSBd.alloc _) (by omega) (by decide) (by decide) (Rd.newAt _ rfl rfl (by decide)) (hSBd.newAt _ _ _ (Nat.le_refl _))).mono ?_; rintro e w7 ⟨r, rfl, hr, hSB7, hG7⟩; have hr0 : 0 ≤ r ∧ r ≤ 1000 := (by simp only [List.mem_cons, List.mem_nil_iff, or_false] at hr; omega); obtain ⟨r0, r1⟩ := hr0; have hN7 := (HND.out.alloc _).grown hG7 (fun e => by have := Option.some.inj e; omega); have hrd7 := (HRD.out.quiet ((G.refl _ none).alloc _)).grown hG7 (fun q e => by cases e; exact hvs); have hG07 := (hGd.alloc _).trans hG7; have cf7 : w7.cell? ⟨g, 2, none⟩ = some (.int .i64 b.2.2.1) := hN7.cell 2; have hwr : IntKind.i64.wrap (b.2.2.1 - r) = b.2.2.1 - r := (by rw [IntKind.wrap_i64]; omega); clear hr hG7))
    have hI : CInv W v l g b w7 := ⟨hrd7, hN7, G.own hG07 (Nat.le_refl _)⟩
    clear hrd7 hN7 hG07 hSB7 hs4 HND HRD hGd hSBd cf cf7 hSB6 hG06 hN6 hrd6 t0 t1 hwr
    obtain ⟨t, ht⟩ : ∃ t, b.2.2.1 - r = t := ⟨_, rfl⟩
    try rw [ht]
    clear ht r0 r1 f0 f1
    go_wp2_with (refine wpList_load_row rfl 31 _ rfl g rfl 31 #[.string b.1, .string b.2.1, .int .i64 b.2.2.1, .int .i64 b.2.2.2.1, .int .i64 b.2.2.2.2.1, .int .i64 b.2.2.2.2.2] (0, 0) _ hI.2.1 Tryd.underlying31 rfl (bo_info b) ?_)
    refine (cancelFee_c v l b c t _ hI.1 (by omega) HB.out).mono ?_; rintro e x1 ⟨rfl, hH⟩
    have hI := hI.quiet hH
    clear hH
    go_wp2_with fail
    refine (tiersFault_c v l _ hI.1 (by omega)).mono ?_; rintro e x2 ⟨rfl, hH⟩
    have hI := hI.quiet hH
    clear hH
    go_wp2_with fail
    refine (checkTiers_c v l _ hI.1 (by omega)).mono ?_; rintro e x3 ⟨rfl, hH⟩
    have hI := hI.quiet hH
    clear hH
    go_wp2_with (refine wpList_load_row rfl 31 _ rfl g rfl 31 #[.string b.1, .string b.2.1, .int .i64 b.2.2.1, .int .i64 b.2.2.2.1, .int .i64 b.2.2.2.2.1, .int .i64 b.2.2.2.2.2] (0, 0) _ hI.2.1 Tryd.underlying31 rfl (bo_info b) ?_)
    have hN8 : Bk (x3.alloc (.cells #[.string b.1, .string b.2.1, .int .i64 b.2.2.1, .int .i64 b.2.2.2.1, .int .i64 b.2.2.2.2.1, .int .i64 b.2.2.2.2.2] 31)) x3.heap.size 31 (boC b) := Bk.new _ _ _
    have hI := hI.quiet ((G.refl x3 none).alloc (.cells #[.string b.1, .string b.2.1, .int .i64 b.2.2.1, .int .i64 b.2.2.2.1, .int .i64 b.2.2.2.2.1, .int .i64 b.2.2.2.2.2] 31))
    refine (bookingForm_c _ [b] _ (RdR.one hN8) (BoOk.one HB.out) (one_len b)).mono ?_; rintro e x4 ⟨rfl, hH⟩
    have hI := hI.quiet hH
    clear hH hN8
    rcases (show c < 0 ∨ (0 ≤ c ∧ 1000000000 < c) ∨ (0 ≤ c ∧ c ≤ 1000000000) by omega) with k1 | ⟨k1, k2⟩ | ⟨k1, k2⟩
    · have hone := cf_errs l b c t 1 (by rw [inB, decide_eq_false (show ¬ 0 ≤ c by omega)]; rfl)
      go_wp2_with fail
      refine (when_t _ _).mono ?_; rintro e w' ⟨rfl, rfl⟩
      have hI := hI.quiet ((G.refl x4 none).alloc (.cells #[.int .i64 (tiE l), .int .i64 (boE [b]), .int .i64 1, .int .i64 (momE t)] 36))
      go_wp2_with fail
      refine (momentFault_c _ _).mono ?_; rintro e w' ⟨rfl, rfl⟩
      go_wp2_with fail
      refine (errs_c [tiE l, boE [b], 1, momE t] _ _ (Rd.new #[.int .i64 (tiE l), .int .i64 (boE [b]), .int .i64 1, .int .i64 (momE t)] rfl (by show 4 ≤ maxLen; decide)) (by simp)).mono ?_; rintro e w' ⟨rfl, rfl⟩
      rw [hone]
      clear hone
      generalize x4.alloc (.cells #[.int .i64 (tiE l), .int .i64 (boE [b]), .int .i64 1, .int .i64 (momE t)] 36) = x5 at hI ⊢
      by_cases hE : cfE l b c t = 0
      · obtain ⟨z1, z2, ⟨z3, z4⟩, z5, z6⟩ := cf_zero hE
        obtain ⟨z7, z8⟩ := boE_ok z2
        have hN : cfN l b c t = c * cnP l (b.2.2.1 - t) / 1000 := by rw [cfN, if_pos hE]
        have Z1 := Lib.hid z1
        rw [hE, hN]
        clear hE hN z1 z2
        go_wp2_with (refine wpList_load_row rfl 31 _ rfl g rfl 31 #[.string b.1, .string b.2.1, .int .i64 b.2.2.1, .int .i64 b.2.2.2.1, .int .i64 b.2.2.2.2.1, .int .i64 b.2.2.2.2.2] (0, 0) _ hI.2.1 Tryd.underlying31 rfl (bo_info b) ?_)
        refine (cancelOf_c v l b c t _ hI.1 (by omega) Z1.out z7 z8 z5 z6 z3 z4).mono ?_; rintro e x6 ⟨rfl, hH⟩
        have hI := hI.quiet hH
        clear hH
        generalize c * cnP l (b.2.2.1 - t) / 1000 = N
        go_wp2_with fail
        refine (booked_c _).mono ?_; rintro e x7 ⟨rfl, hH⟩
        go_wp2_with fail
        go_ret
        exact ⟨rfl, hI.2.2.trans hH⟩
      · have hN : cfN l b c t = 0 := by rw [cfN, if_neg hE]
        have hE' : (cfE l b c t == 0) = false := by simpa using hE
        rw [hN]
        clear hN hE
        generalize cfE l b c t = E at hE' ⊢
        go_wp2_with fail
        refine (booked_c _).mono ?_; rintro e x7 ⟨rfl, hH⟩
        go_wp2_with fail
        go_ret
        exact ⟨rfl, hI.2.2.trans hH⟩
    · have hone := cf_errs l b c t 1 (by rw [inB, decide_eq_false (show ¬ c ≤ 1000000000 by omega), Bool.and_false]; rfl)
      go_wp2_with fail
      refine (when_t _ _).mono ?_; rintro e w' ⟨rfl, rfl⟩
      have hI := hI.quiet ((G.refl x4 none).alloc (.cells #[.int .i64 (tiE l), .int .i64 (boE [b]), .int .i64 1, .int .i64 (momE t)] 36))
      go_wp2_with fail
      refine (momentFault_c _ _).mono ?_; rintro e w' ⟨rfl, rfl⟩
      go_wp2_with fail
      refine (errs_c [tiE l, boE [b], 1, momE t] _ _ (Rd.new #[.int .i64 (tiE l), .int .i64 (boE [b]), .int .i64 1, .int .i64 (momE t)] rfl (by show 4 ≤ maxLen; decide)) (by simp)).mono ?_; rintro e w' ⟨rfl, rfl⟩
      rw [hone]
      clear hone
      generalize x4.alloc (.cells #[.int .i64 (tiE l), .int .i64 (boE [b]), .int .i64 1, .int .i64 (momE t)] 36) = x5 at hI ⊢
      by_cases hE : cfE l b c t = 0
      · obtain ⟨z1, z2, ⟨z3, z4⟩, z5, z6⟩ := cf_zero hE
        obtain ⟨z7, z8⟩ := boE_ok z2
        have hN : cfN l b c t = c * cnP l (b.2.2.1 - t) / 1000 := by rw [cfN, if_pos hE]
        have Z1 := Lib.hid z1
        rw [hE, hN]
        clear hE hN z1 z2
        go_wp2_with (refine wpList_load_row rfl 31 _ rfl g rfl 31 #[.string b.1, .string b.2.1, .int .i64 b.2.2.1, .int .i64 b.2.2.2.1, .int .i64 b.2.2.2.2.1, .int .i64 b.2.2.2.2.2] (0, 0) _ hI.2.1 Tryd.underlying31 rfl (bo_info b) ?_)
        refine (cancelOf_c v l b c t _ hI.1 (by omega) Z1.out z7 z8 z5 z6 z3 z4).mono ?_; rintro e x6 ⟨rfl, hH⟩
        have hI := hI.quiet hH
        clear hH
        generalize c * cnP l (b.2.2.1 - t) / 1000 = N
        go_wp2_with fail
        refine (booked_c _).mono ?_; rintro e x7 ⟨rfl, hH⟩
        go_wp2_with fail
        go_ret
        exact ⟨rfl, hI.2.2.trans hH⟩
      · have hN : cfN l b c t = 0 := by rw [cfN, if_neg hE]
        have hE' : (cfE l b c t == 0) = false := by simpa using hE
        rw [hN]
        clear hN hE
        generalize cfE l b c t = E at hE' ⊢
        go_wp2_with fail
        refine (booked_c _).mono ?_; rintro e x7 ⟨rfl, hH⟩
        go_wp2_with fail
        go_ret
        exact ⟨rfl, hI.2.2.trans hH⟩
    · have hone := cf_errs l b c t 0 (by rw [inB, decide_eq_true k1, decide_eq_true k2]; rfl)
      go_wp2_with fail
      rw [show (decide (c < 0) || decide (1000000000 < c)) = false by rw [decide_eq_false (show ¬ c < 0 by omega), decide_eq_false (show ¬ 1000000000 < c by omega)]; rfl]
      refine (when_f _ _).mono ?_; rintro e w' ⟨rfl, rfl⟩
      have hI := hI.quiet ((G.refl x4 none).alloc (.cells #[.int .i64 (tiE l), .int .i64 (boE [b]), .int .i64 0, .int .i64 (momE t)] 36))
      go_wp2_with fail
      refine (momentFault_c _ _).mono ?_; rintro e w' ⟨rfl, rfl⟩
      go_wp2_with fail
      refine (errs_c [tiE l, boE [b], 0, momE t] _ _ (Rd.new #[.int .i64 (tiE l), .int .i64 (boE [b]), .int .i64 0, .int .i64 (momE t)] rfl (by show 4 ≤ maxLen; decide)) (by simp)).mono ?_; rintro e w' ⟨rfl, rfl⟩
      rw [hone]
      clear hone
      generalize x4.alloc (.cells #[.int .i64 (tiE l), .int .i64 (boE [b]), .int .i64 0, .int .i64 (momE t)] 36) = x5 at hI ⊢
      by_cases hE : cfE l b c t = 0
      · obtain ⟨z1, z2, ⟨z3, z4⟩, z5, z6⟩ := cf_zero hE
        obtain ⟨z7, z8⟩ := boE_ok z2
        have hN : cfN l b c t = c * cnP l (b.2.2.1 - t) / 1000 := by rw [cfN, if_pos hE]
        have Z1 := Lib.hid z1
        rw [hE, hN]
        clear hE hN z1 z2
        go_wp2_with (refine wpList_load_row rfl 31 _ rfl g rfl 31 #[.string b.1, .string b.2.1, .int .i64 b.2.2.1, .int .i64 b.2.2.2.1, .int .i64 b.2.2.2.2.1, .int .i64 b.2.2.2.2.2] (0, 0) _ hI.2.1 Tryd.underlying31 rfl (bo_info b) ?_)
        refine (cancelOf_c v l b c t _ hI.1 (by omega) Z1.out z7 z8 z5 z6 z3 z4).mono ?_; rintro e x6 ⟨rfl, hH⟩
        have hI := hI.quiet hH
        clear hH
        generalize c * cnP l (b.2.2.1 - t) / 1000 = N
        go_wp2_with fail
        refine (booked_c _).mono ?_; rintro e x7 ⟨rfl, hH⟩
        go_wp2_with fail
        go_ret
        exact ⟨rfl, hI.2.2.trans hH⟩
      · have hN : cfN l b c t = 0 := by rw [cfN, if_neg hE]
        have hE' : (cfE l b c t == 0) = false := by simpa using hE
        rw [hN]
        clear hN hE
        generalize cfE l b c t = E at hE' ⊢
        go_wp2_with fail
        refine (booked_c _).mono ?_; rintro e x7 ⟨rfl, hH⟩
        go_wp2_with fail
        go_ret
        exact ⟨rfl, hI.2.2.trans hH⟩
end Go.Proofs.YtndeidcddlmhbaaDoor

/- What the row's list of variables gives; a start that meets it. -/
namespace Go.Proofs.YtndeidcddlmhbaaDoor
open Go.ChangeShapes Go.WideShapes Go.ChangeAt Go.RowKit

theorem own : ownKnob Tryd.prog.godebug = none := by kernel_rfl
theorem c1 : Tryd.prog.cellsOf 3 = 1 := by kernel_rfl
def laidL : List (String × DataW Unit) := [("unicode/utf8.acceptRanges", Rows.laid_unicode_utf8_acceptRanges), ("unicode/utf8.first", Rows.laid_unicode_utf8_first)]
/-- A start that meets the list: what the door's run leaves, Go's own table laid by hand. -/
noncomputable def laidWorld (os : Os) : World :=
  { World.doorLaid Tryd.prog 200 os with heap := (World.doorLaid Tryd.prog 200 os).heap.modify 1 fun
      | .cells _ t fr => .cells (Lib.firstTab.map (Value.int .u8)).toArray t fr
      | o => o }
set_option maxRecDepth 100000 in
theorem laid_met (os : Os) : laidMetH Tryd.prog laidL ((laidWorld os).forCall (fun _ _ => 0) ⟨#[], #[.slice none 0 0], []⟩).memory :=
  laidMetH_of_parts3 (fuel := 8) (laidMet_of_run' 8 (by kernel_rfl) (by kernel_rfl)) (by kernel_rfl) (by kernel_rfl)

/-! ### The row's last step -/
section
variable {H : Type} {enc : TypeId × Value → H} {P : Program}
theorem post_quiet {f : Func} {s : ChangeSpec} {apart fresh handsOn again : Bool} {W W' : World} {args : Array Value} {v : Value} {ds gs : List (DataW H)} {before pa pv : List MemPlace}
    (hW : DataW.Whole enc P f.params.toList s.vars apart W args.toList ds gs before) (hg : G W W' none)
    (hres : ∀ (b : Nat) (sp : Nat → Bool) (hd : Bool), DataW.TrodAll enc P W' b sp hd f.resultTypes.toList (v.resultList f.resultTypes.size) (s.fn H (ds ++ gs)).results [])
    (hargs : ∀ sp : Nat → Bool, (∀ p ∈ before, sp p.block = true) → DataW.TrodAll enc P W' 0 sp true f.params.toList args.toList (s.fn H (ds ++ gs)).args pa)
    (hvars : ∀ sp : Nat → Bool, (∀ p ∈ before, sp p.block = true) → DataW.TrodVars enc P W' sp s.vars (s.fn H (ds ++ gs)).vars pv)
    (hps : before = pa ++ pv)
    (hok : ∀ (j : Nat) (t : TypeId) (r : Value), f.resultTypes[j]? = some t → (v.resultList f.resultTypes.size)[j]? = some r → Value.okWide P W' .any 0 t r) :
    s.post enc P f apart fresh handsOn again W args v W' := by
  have hb := hg.below
  have lt : ∀ p ∈ before, p.block < W.heap.size := fun p hp => hW.lt p hp
  have old : ∀ p ∈ before, (fun b => decide (b < W.heap.size)) p.block = true := fun p hp => decide_eq_true (lt p hp)
  have sub : ∀ p, p ∈ ([] ++ pa) ++ pv → p ∈ before := fun p hp => by rw [hps]; simpa using hp
  refine ⟨ds, gs, before, [], pa, pv, hW, hres _ _ _, hargs _ old, hvars _ old, World.keptBut_mono (fun p hp => ⟨hp, .inr (by rw [← List.mem_append, ← hps]; exact hp)⟩) (hb.frame (· ∈ before)), fun _ => ⟨hok, ?_⟩⟩
  obtain ⟨_, _, _, _, _, hz, hn⟩ := hW
  refine ⟨_, _, ([] ++ pa) ++ pv, ⟨[] ++ pa, pv, trodAll_append (hargs _ fun _ _ => rfl) (hres _ _ _), hvars _ fun _ _ => rfl, rfl, fun b off hp => ?_, fun ha => ?_⟩, fun p hp _ => sub p hp⟩
  · rw [hb.frozen (lt _ (sub _ hp))]
    exact hz b off (sub _ hp)
  · have h := hn ha
    rw [hps] at h
    simpa using h
end
theorem laidOut : laidOutB Tryd.prog = true := by kernel_rfl
theorem wf64 {n : Int} (h : (Lit.int .i64 n).wf = true) : -9223372036854775808 ≤ n ∧ n ≤ 9223372036854775807 := by
  have h1 : IntKind.i64.min = -9223372036854775808 := rfl
  have h2 : IntKind.i64.max = 9223372036854775807 := rfl
  simp only [Lit.wf, Bool.and_eq_true, decide_eq_true_eq] at h
  omega
set_option maxRecDepth 100000 in
theorem has_of_ok {W : World} {base : Nat} {a : Addr} {n c : Nat} (hok : Value.okWide Tryd.prog W .any base 22 (.slice (some a) n c)) : a.spot = none ∧ a.block < W.heap.size := by
  simp only [Value.okWide, Tryd.underlying22, Cell.okWide, Cell.ok] at hok
  obtain ⟨_, _, _, h2, row, cells, h3, _⟩ := hok
  refine ⟨h2, ?_⟩
  unfold World.shape? at h3
  cases hh : W.heap[a.block]? with
  | none => simp [hh] at h3
  | some o => exact (Array.getElem?_eq_some_iff.1 hh).1
set_option maxRecDepth 100000 in
/-- The list of numbers that came in, as the walk wants it. -/
theorem rd_of_trod {H : Type} {enc : TypeId × Value → H} {W : World} {base : Nat} {v : Value} {d : DataW H} {p : List MemPlace} (hok : Value.okWide Tryd.prog W .any base 22 v) (h : DataW.Trod enc Tryd.prog W 0 (fun _ => true) true 22 v d p) :
    ∃ (a : Option Addr) (n c : Nat) (zs : List Int), v = .slice a n c ∧ Rd W 1 (.slice a n c) n (zs.map (Value.int .i64)) ∧ ∀ z ∈ zs, -9223372036854775808 ≤ z ∧ z ≤ 9223372036854775807 := by
  obtain ⟨a0, len, cap, rfl⟩ := okWide_slice Tryd.underlying22 hok
  obtain ⟨fuel, hf⟩ := h
  rcases open_ints Tryd.underlying22 Tryd.underlying3 c1 hf with ⟨hcs, _⟩ | ⟨a, len', cap', zs, hcs, _, hl, hm, hz, _, hcell, hw⟩
  · have hcs' : [Value.slice a0 len cap] = [Value.slice none 0 0] := hcs
    injection hcs' with e _
    injection e with e1 e2 e3
    subst e1; subst e2; subst e3
    exact ⟨none, 0, 0, [], rfl, ⟨none, 0, rfl, Nat.le_refl _, Nat.zero_le _, rfl, fun _ => ⟨rfl, rfl⟩, fun b hb => by cases hb⟩, fun z hz => by cases hz⟩
  · have hcs' : [Value.slice a0 len cap] = [Value.slice (some a) len' cap'] := hcs
    injection hcs' with e _
    injection e with e1 e2 e3
    subst e1; subst e2; subst e3
    simp only [if_true] at hz
    obtain ⟨s1, s2⟩ := has_of_ok hok
    refine ⟨some a, len, cap, zs.take len, rfl, ⟨some a, cap, rfl, hl, hm, by simp; omega, (fun e => by cases e), fun b hb => ?_⟩, fun z hz' => wf64 (hw z (List.mem_of_mem_take hz'))⟩
    obtain rfl := Option.some.inj hb
    refine ⟨s1, s2, fun j u hj => ?_⟩
    rw [List.getElem?_map] at hj
    obtain ⟨z, hz1, rfl⟩ := Option.map_eq_some_iff.1 hj
    have hjl := (List.getElem?_eq_some_iff.1 hz1).1
    simp at hjl
    have hc := hcell j (by omega)
    have hz2 : zs[j]? = some z := by rw [← hz1, List.getElem?_take, if_pos (by omega)]
    rw [List.getD, hz2] at hc
    have ha : a.add j = ⟨a.block, a.off + j, none⟩ := by
      obtain ⟨ab, ao, asp⟩ := a
      dsimp only at s1
      subst s1
      exact add_at ab ao j
    rw [ha] at hc
    exact hc
end Go.Proofs.YtndeidcddlmhbaaDoor
