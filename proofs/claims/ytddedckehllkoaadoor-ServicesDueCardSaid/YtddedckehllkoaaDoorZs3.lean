/- Bkf, Tir, Can, Low, Bkd, Eqm, Sfd, Svm, Eqd, Inn, Srv, Svn, Dof, Byd. -/
import Derived.Test.YtddedckehllkoaaDoorZs1
import Derived.Test.YtddedckehllkoaaDoorZs2
import Derived.Laws.ResultCell
import Derived.Deep.RegionHeld3
import Derived.StillTailTactics
import Derived.Laws.StructEq
/- Bookings: checkForm; the reference's BookingForm. -/
namespace Go.Proofs.YtddedckehllkoaaDoor
open Go.RowKit

/-- A booking: key, class, from, to, made, percent. -/
abbrev Bo := ByteArray × ByteArray × Int × Int × Int × Int
def boC (x : Bo) : Array Value := #[.string x.1, .string x.2.1, .int .i64 x.2.2.1, .int .i64 x.2.2.2.1, .int .i64 x.2.2.2.2.1, .int .i64 x.2.2.2.2.2]
theorem boC_sz (x : Bo) : (boC x).size = 6 := rfl
theorem bo_info (x : Bo) : (Tryd.prog.info? 31).map (·.size) = some (boC x).size := (by kernel_rfl : (Tryd.prog.info? 31).map (·.size) = some 6)
def boB (x : Bo) : Prop := Small x.1 ∧ Small x.2.1 ∧ bnd x.2.2.1 ∧ bnd x.2.2.2.1 ∧ bnd x.2.2.2.2.1 ∧ bnd x.2.2.2.2.2
def BoOk (l : List Bo) : Prop := ∀ x ∈ l, boB x
def boT (a z m p : Int) : Bool := timB a z && (inB m 0 a && inB p 0 100)
def boErr (b : ByteArray) : List Bo → Int
  | [] => 0
  | x :: r => if keyB x.1 = false then 5 else if keyB x.2.1 = false then 5 else if leB x.1 b = true then 7 else if boT x.2.2.1 x.2.2.2.1 x.2.2.2.2.1 x.2.2.2.2.2 = false then 1 else boErr x.1 r
def boE (l : List Bo) : Int := if 500 < l.length then 2 else boErr ⟨#[]⟩ l
def BoRel (w : World) (l : List Bo) (v i : Value) (wr : World) : Prop :=
  ∃ (k : Nat) (b : ByteArray), k ≤ l.length ∧ i = .int .i64 k ∧ v = .string b ∧ boErr ⟨#[]⟩ l = boErr b (l.drop k) ∧ G w wr none
theorem boRow {W w : World} {bb bo n cap : Nat} {l : List Bo} (h : RdR W 6 boC (.slice (some ⟨bb, bo, none⟩) n cap) l) (hG : G W w none) {k : Nat} {p : Bo} (hp : l[k]? = some p) :
    ∀ j v, (boC p).toList[j]? = some v → w.cell? ((⟨bb, bo + k * 6, none⟩ : Addr).add j) = some v := fun j v hv => by
  rw [add_at]
  exact RdR.cell boC_sz h hG hp j v hv
theorem boTime {w : World} {g : Nat} {T : TypeId} {p : Bo} (h : Bk w g T (boC p)) : ∀ j v, (#[Value.int .i64 p.2.2.1, .int .i64 p.2.2.2.1] : Array Value).toList[j]? = some v → w.cell? ((⟨g, 2, none⟩ : Addr).add j) = some v := fun j v hv => by
  rw [add_at, h.cell]
  match j, hv with
  | 0, hv => exact hv
  | 1, hv => exact hv
  | n + 2, hv => simp at hv
set_option maxRecDepth 100000 in
set_option maxHeartbeats 4000000 in
theorem checkForm_c (v : Value) (l : List Bo) (w : World) (hr : RdR w 6 boC v l) (hl : BoOk l) (hn : l.length ≤ 1000) :
    Calls Tryd.prog 70 #[v] w fun e w' => e = .returned (.int .i64 (boE l)) ∧ G w w' none := by
  have HR := Lib.hid hr
  obtain ⟨a, cap, rfl, hcap, hm⟩ := RdR.form hr
  clear hr
  by_cases h30 : 500 < l.length
  · have H := Lib.hid (show boE l = 2 by simp [boE, h30])
    go_enter Tryd.func70, Tryd.ntmps70
    go_wp2_with fail
    go_ret
    exact ⟨by rw [H.out]; rfl, G.refl _ _⟩
  · have H := Lib.hid (show boE l = boErr ⟨#[]⟩ l by simp [boE, h30])
    go_enter Tryd.func70, Tryd.ntmps70
    go_wp2_with fail
    go_loopw [3, 11] (BoRel w l) (fun _ i _ => l.length - (intOf i).toNat)
    case atStart => exact ⟨0, ⟨#[]⟩, by omega, rfl, rfl, rfl, G.refl _ _⟩
    case round =>
      obtain ⟨k, b, hkl, rfl, rfl, heq, hG⟩ := hrel
      have HE := Lib.hid heq
      clear heq
      by_cases hk : k < l.length
      · obtain ⟨p, hp⟩ : ∃ p, l[k]? = some p := ⟨_, List.getElem?_eq_getElem hk⟩
        have hdrop : l.drop k = p :: l.drop (k + 1) := by rw [List.drop_eq_getElem_cons hk, ← (List.getElem?_eq_some_iff.1 hp).2]
        have hpl := hl p (List.mem_of_getElem? hp)
        obtain ⟨bb, bo, rfl, hbb, _⟩ := RdR.elem boC_sz HR.out hG hp
        have HW := Lib.hid (boRow HR.out hG hp)
        have hs1 := hpl.1
        have hs2 := hpl.2.1
        unfold Small at hs1 hs2
        have HS : Hid (boErr b (l.drop k) = if keyB p.1 = false then 5 else if keyB p.2.1 = false then 5 else if leB p.1 b = true then 7 else if boT p.2.2.1 p.2.2.2.1 p.2.2.2.2.1 p.2.2.2.2.2 = false then 1 else boErr p.1 (l.drop (k + 1))) := Lib.hid (by rw [hdrop]; rfl)
        have hB5 := Bk.new wr 31 (boC p)
        have hG5 := hG.alloc (.cells (boC p) 31)
        clear hdrop hp hpl hG
        go_wp2_with (refine wpList_load_at rfl 31 _ rfl ⟨bb, bo + k * 6, none⟩ rfl #[.string p.1, .string p.2.1, .int .i64 p.2.2.1, .int .i64 p.2.2.2.1, .int .i64 p.2.2.2.2.1, .int .i64 p.2.2.2.2.2] _ HW.out Tryd.underlying31 rfl (bo_info p) ?_)
        have hB5 : Bk (wr.alloc (.cells #[.string p.1, .string p.2.1, .int .i64 p.2.2.1, .int .i64 p.2.2.2.1, .int .i64 p.2.2.2.2.1, .int .i64 p.2.2.2.2.2] 31)) wr.heap.size 31 (boC p) := hB5
        have hG5 : G w (wr.alloc (.cells #[.string p.1, .string p.2.1, .int .i64 p.2.2.1, .int .i64 p.2.2.2.1, .int .i64 p.2.2.2.2.1, .int .i64 p.2.2.2.2.2] 31)) none := hG5
        have hg5 := hB5.lt
        generalize wr.alloc (.cells #[.string p.1, .string p.2.1, .int .i64 p.2.2.1, .int .i64 p.2.2.2.1, .int .i64 p.2.2.2.2.1, .int .i64 p.2.2.2.2.2] 31) = w5 at hB5 hG5 hg5 ⊢
        generalize wr.heap.size = g at hB5 hg5 ⊢
        refine (isKey_c _ _ hs1).mono ?_; rintro e w1 ⟨rfl, rfl⟩
        have c0 : World.cell? w5 ⟨g, 0, none⟩ = some (.string p.1) := hB5.cell 0
        have c1 : World.cell? w5 ⟨g, 1, none⟩ = some (.string p.2.1) := hB5.cell 1
        have c2 : World.cell? w5 ⟨g, 2, none⟩ = some (.int .i64 p.2.2.1) := hB5.cell 2
        have c3 : World.cell? w5 ⟨g, 3, none⟩ = some (.int .i64 p.2.2.2.1) := hB5.cell 3
        have c4 : World.cell? w5 ⟨g, 4, none⟩ = some (.int .i64 p.2.2.2.2.1) := hB5.cell 4
        have c5 : World.cell? w5 ⟨g, 5, none⟩ = some (.int .i64 p.2.2.2.2.2) := hB5.cell 5
        cases hkb : keyB p.1 with
        | false =>
          have HF : Hid (boE l = 5) := Lib.hid (by rw [H.out, HE.out, HS.out, if_pos hkb])
          clear hkb
          go_wp2_with fail
          go_ret
          exact ⟨by rw [HF.out]; rfl, hG5⟩
        | true =>
          have HK := Lib.hid hkb
          clear hkb
          go_wp2_with fail
          refine (isKey_c _ _ hs2).mono ?_; rintro e w1 ⟨rfl, rfl⟩
          cases hkb : keyB p.2.1 with
          | false =>
            have HF : Hid (boE l = 5) := Lib.hid (by rw [H.out, HE.out, HS.out, if_neg (by simp [HK.out]), if_pos hkb])
            clear hkb
            go_wp2_with fail
            go_ret
            exact ⟨by rw [HF.out]; rfl, hG5⟩
          | true =>
            have HK2 := Lib.hid hkb
            clear hkb
            cases hle : leB p.1 b with
            | true =>
              have HF : Hid (boE l = 7) := Lib.hid (by rw [H.out, HE.out, HS.out, if_neg (by simp [HK.out]), if_neg (by simp [HK2.out]), if_pos hle])
              unfold leB at hle
              go_wp2_with fail
              go_ret
              exact ⟨by rw [HF.out]; rfl, hG5⟩
            | false =>
              have HS2 : Hid (boErr ⟨#[]⟩ l = if boT p.2.2.1 p.2.2.2.1 p.2.2.2.2.1 p.2.2.2.2.2 = false then 1 else boErr p.1 (l.drop (k + 1))) := Lib.hid (by rw [HE.out, HS.out, if_neg (by simp [HK.out]), if_neg (by simp [HK2.out]), if_neg (by simp [hle])])
              unfold leB at hle
              clear HS HE
              have HT := Lib.hid (boTime hB5)
              go_wp2_with (refine wpList_load_at rfl 29 _ rfl ⟨g, 2, none⟩ rfl #[.int .i64 p.2.2.1, .int .i64 p.2.2.2.1] _ HT.out Tryd.underlying29 rfl (wi_info _ _) ?_)
              refine (isTime_c _ _ _).mono ?_; rintro e w2 ⟨rfl, hG2⟩
              have hB5 := hB5.quiet hG2
              have hG5 := hG5.trans hG2
              clear hG2 HT c0 c1 c2 c3 c4 c5
              have c0 : w2.cell? ⟨g, 0, none⟩ = some (.string p.1) := hB5.cell 0
              have c1 : w2.cell? ⟨g, 1, none⟩ = some (.string p.2.1) := hB5.cell 1
              have c2 : w2.cell? ⟨g, 2, none⟩ = some (.int .i64 p.2.2.1) := hB5.cell 2
              have c3 : w2.cell? ⟨g, 3, none⟩ = some (.int .i64 p.2.2.2.1) := hB5.cell 3
              have c4 : w2.cell? ⟨g, 4, none⟩ = some (.int .i64 p.2.2.2.2.1) := hB5.cell 4
              have c5 : w2.cell? ⟨g, 5, none⟩ = some (.int .i64 p.2.2.2.2.2) := hB5.cell 5
              cases ht : timB p.2.2.1 p.2.2.2.1 with
              | false =>
                have HF : Hid (boE l = 1) := Lib.hid (by rw [H.out, HS2.out, if_pos (by simp [boT, ht])])
                go_wp2_with fail
                go_ret
                exact ⟨by rw [HF.out]; rfl, hG5⟩
              | true =>
                have HTB := Lib.hid ht
                clear ht
                go_wp2_with fail
                refine (within_c _ _ _ _).mono ?_; rintro e w' ⟨rfl, rfl⟩
                cases hm1 : inB p.2.2.2.2.1 0 p.2.2.1 with
                | false =>
                  have HF : Hid (boE l = 1) := Lib.hid (by rw [H.out, HS2.out, if_pos (by simp [boT, hm1])])
                  go_wp2_with fail
                  go_ret
                  exact ⟨by rw [HF.out]; rfl, hG5⟩
                | true =>
                  have HM := Lib.hid hm1
                  clear hm1
                  go_wp2_with fail
                  refine (within_c _ _ _ _).mono ?_; rintro e w' ⟨rfl, rfl⟩
                  cases hp1 : inB p.2.2.2.2.2 0 100 with
                  | false =>
                    have HF : Hid (boE l = 1) := Lib.hid (by rw [H.out, HS2.out, if_pos (by simp [boT, hp1])])
                    go_wp2_with fail
                    go_ret
                    exact ⟨by rw [HF.out]; rfl, hG5⟩
                  | true =>
                    have HF : Hid (boErr ⟨#[]⟩ l = boErr p.1 (l.drop (k + 1))) := Lib.hid (by rw [HS2.out, if_neg (by simp [boT, HTB.out, HM.out, hp1])])
                    clear hp1
                    go_wp2_with fail
                    go_roundw
                    case rel => exact ⟨k + 1, p.1, by omega, by go_num, rfl, HF.out, hG5⟩
                    case measure => simp [intOf]; omega
      · obtain rfl : k = l.length := by omega
        have HE2 : Hid (boE l = 0) := Lib.hid (by rw [H.out, HE.out, List.drop_length]; rfl)
        go_wp2_with fail
        go_ret
        exact ⟨by rw [HE2.out]; rfl, hG⟩
set_option maxRecDepth 100000 in
set_option maxHeartbeats 4000000 in
theorem bookingForm_c (v : Value) (l : List Bo) (w : World) (hr : RdR w 6 boC v l) (hl : BoOk l) (hn : l.length ≤ 1000) :
    Calls Tryd.prog 17 #[v] w fun e w' => e = .returned (.int .i64 (boE l)) ∧ G w w' none := by
  have HR := Lib.hid hr
  obtain ⟨a, cap, rfl, hcap, hm⟩ := RdR.form hr
  clear hr
  by_cases h30 : 500 < l.length
  · have H := Lib.hid (show boE l = 2 by simp [boE, h30])
    go_enter Tryd.func17, Tryd.ntmps17
    go_wp2_with fail
    go_ret
    exact ⟨by rw [H.out]; rfl, G.refl _ _⟩
  · have H := Lib.hid (show boE l = boErr ⟨#[]⟩ l by simp [boE, h30])
    go_enter Tryd.func17, Tryd.ntmps17
    go_wp2_with fail
    go_loopw [3, 11] (BoRel w l) (fun _ i _ => l.length - (intOf i).toNat)
    case atStart => exact ⟨0, ⟨#[]⟩, by omega, rfl, rfl, rfl, G.refl _ _⟩
    case round =>
      obtain ⟨k, b, hkl, rfl, rfl, heq, hG⟩ := hrel
      have HE := Lib.hid heq
      clear heq
      by_cases hk : k < l.length
      · obtain ⟨p, hp⟩ : ∃ p, l[k]? = some p := ⟨_, List.getElem?_eq_getElem hk⟩
        have hdrop : l.drop k = p :: l.drop (k + 1) := by rw [List.drop_eq_getElem_cons hk, ← (List.getElem?_eq_some_iff.1 hp).2]
        have hpl := hl p (List.mem_of_getElem? hp)
        obtain ⟨bb, bo, rfl, hbb, _⟩ := RdR.elem boC_sz HR.out hG hp
        have HW := Lib.hid (boRow HR.out hG hp)
        have hs1 := hpl.1
        have hs2 := hpl.2.1
        unfold Small at hs1 hs2
        have HS : Hid (boErr b (l.drop k) = if keyB p.1 = false then 5 else if keyB p.2.1 = false then 5 else if leB p.1 b = true then 7 else if boT p.2.2.1 p.2.2.2.1 p.2.2.2.2.1 p.2.2.2.2.2 = false then 1 else boErr p.1 (l.drop (k + 1))) := Lib.hid (by rw [hdrop]; rfl)
        have hB5 := Bk.new wr 31 (boC p)
        have hG5 := hG.alloc (.cells (boC p) 31)
        clear hdrop hp hpl hG
        go_wp2_with (refine wpList_load_at rfl 31 _ rfl ⟨bb, bo + k * 6, none⟩ rfl #[.string p.1, .string p.2.1, .int .i64 p.2.2.1, .int .i64 p.2.2.2.1, .int .i64 p.2.2.2.2.1, .int .i64 p.2.2.2.2.2] _ HW.out Tryd.underlying31 rfl (bo_info p) ?_)
        have hB5 : Bk (wr.alloc (.cells #[.string p.1, .string p.2.1, .int .i64 p.2.2.1, .int .i64 p.2.2.2.1, .int .i64 p.2.2.2.2.1, .int .i64 p.2.2.2.2.2] 31)) wr.heap.size 31 (boC p) := hB5
        have hG5 : G w (wr.alloc (.cells #[.string p.1, .string p.2.1, .int .i64 p.2.2.1, .int .i64 p.2.2.2.1, .int .i64 p.2.2.2.2.1, .int .i64 p.2.2.2.2.2] 31)) none := hG5
        have hg5 := hB5.lt
        generalize wr.alloc (.cells #[.string p.1, .string p.2.1, .int .i64 p.2.2.1, .int .i64 p.2.2.2.1, .int .i64 p.2.2.2.2.1, .int .i64 p.2.2.2.2.2] 31) = w5 at hB5 hG5 hg5 ⊢
        generalize wr.heap.size = g at hB5 hg5 ⊢
        refine (rkey_c _ _ hs1).mono ?_; rintro e w1 ⟨rfl, hG1⟩
        have hB5 := hB5.quiet hG1
        have hG5 := hG5.trans hG1
        clear hG1
        have c0 : World.cell? w1 ⟨g, 0, none⟩ = some (.string p.1) := hB5.cell 0
        have c1 : World.cell? w1 ⟨g, 1, none⟩ = some (.string p.2.1) := hB5.cell 1
        have c2 : World.cell? w1 ⟨g, 2, none⟩ = some (.int .i64 p.2.2.1) := hB5.cell 2
        have c3 : World.cell? w1 ⟨g, 3, none⟩ = some (.int .i64 p.2.2.2.1) := hB5.cell 3
        have c4 : World.cell? w1 ⟨g, 4, none⟩ = some (.int .i64 p.2.2.2.2.1) := hB5.cell 4
        have c5 : World.cell? w1 ⟨g, 5, none⟩ = some (.int .i64 p.2.2.2.2.2) := hB5.cell 5
        cases hkb : keyB p.1 with
        | false =>
          have HF : Hid (boE l = 5) := Lib.hid (by rw [H.out, HE.out, HS.out, if_pos hkb])
          clear hkb
          go_wp2_with fail
          go_ret
          exact ⟨by rw [HF.out]; rfl, hG5⟩
        | true =>
          have HK := Lib.hid hkb
          clear hkb
          go_wp2_with fail
          refine (rkey_c _ _ hs2).mono ?_; rintro e w1 ⟨rfl, hG1⟩
          have hB5 := hB5.quiet hG1
          have hG5 := hG5.trans hG1
          clear hG1
          clear c0 c1 c2 c3 c4 c5
          have c0 : w1.cell? ⟨g, 0, none⟩ = some (.string p.1) := hB5.cell 0
          have c1 : w1.cell? ⟨g, 1, none⟩ = some (.string p.2.1) := hB5.cell 1
          have c2 : w1.cell? ⟨g, 2, none⟩ = some (.int .i64 p.2.2.1) := hB5.cell 2
          have c3 : w1.cell? ⟨g, 3, none⟩ = some (.int .i64 p.2.2.2.1) := hB5.cell 3
          have c4 : w1.cell? ⟨g, 4, none⟩ = some (.int .i64 p.2.2.2.2.1) := hB5.cell 4
          have c5 : w1.cell? ⟨g, 5, none⟩ = some (.int .i64 p.2.2.2.2.2) := hB5.cell 5
          cases hkb : keyB p.2.1 with
          | false =>
            have HF : Hid (boE l = 5) := Lib.hid (by rw [H.out, HE.out, HS.out, if_neg (by simp [HK.out]), if_pos hkb])
            clear hkb
            go_wp2_with fail
            go_ret
            exact ⟨by rw [HF.out]; rfl, hG5⟩
          | true =>
            have HK2 := Lib.hid hkb
            clear hkb
            cases hle : leB p.1 b with
            | true =>
              have HF : Hid (boE l = 7) := Lib.hid (by rw [H.out, HE.out, HS.out, if_neg (by simp [HK.out]), if_neg (by simp [HK2.out]), if_pos hle])
              unfold leB at hle
              go_wp2_with fail
              go_ret
              exact ⟨by rw [HF.out]; rfl, hG5⟩
            | false =>
              have HS2 : Hid (boErr ⟨#[]⟩ l = if boT p.2.2.1 p.2.2.2.1 p.2.2.2.2.1 p.2.2.2.2.2 = false then 1 else boErr p.1 (l.drop (k + 1))) := Lib.hid (by rw [HE.out, HS.out, if_neg (by simp [HK.out]), if_neg (by simp [HK2.out]), if_neg (by simp [hle])])
              unfold leB at hle
              clear HS HE
              rcases (show p.2.2.1 < 0 ∨ (0 ≤ p.2.2.1 ∧ p.2.2.2.1 ≤ p.2.2.1) ∨ (0 ≤ p.2.2.1 ∧ p.2.2.1 < p.2.2.2.1 ∧ 5761439 < p.2.2.2.1) ∨ (0 ≤ p.2.2.1 ∧ p.2.2.1 < p.2.2.2.1 ∧ p.2.2.2.1 ≤ 5761439) by omega) with t1 | ⟨t1, t2⟩ | ⟨t1, t2, t3⟩ | ⟨t1, t2, t3⟩
              · have HF : Hid (boE l = 1) := Lib.hid (by rw [H.out, HS2.out, if_pos (by rw [boT, timB_no (by omega)]; rfl)])
                go_wp2_with fail
                go_ret
                exact ⟨by rw [HF.out]; rfl, hG5⟩
              · have HF : Hid (boE l = 1) := Lib.hid (by rw [H.out, HS2.out, if_pos (by rw [boT, timB_no (by omega)]; rfl)])
                go_wp2_with fail
                go_ret
                exact ⟨by rw [HF.out]; rfl, hG5⟩
              · have HF : Hid (boE l = 1) := Lib.hid (by rw [H.out, HS2.out, if_pos (by rw [boT, timB_no (by omega)]; rfl)])
                go_wp2_with fail
                go_ret
                exact ⟨by rw [HF.out]; rfl, hG5⟩
              · have HTB := Lib.hid (timB_yes ⟨t1, t2, show p.2.2.2.1 < 5761440 by omega⟩)
                go_wp2_with fail
                refine (in_c _ _ _ _).mono ?_; rintro e w' ⟨rfl, rfl⟩
                cases hm1 : inB p.2.2.2.2.1 0 p.2.2.1 with
                | false =>
                  have HF : Hid (boE l = 1) := Lib.hid (by rw [H.out, HS2.out, if_pos (by simp [boT, hm1])])
                  go_wp2_with fail
                  go_ret
                  exact ⟨by rw [HF.out]; rfl, hG5⟩
                | true =>
                  have HM := Lib.hid hm1
                  clear hm1
                  go_wp2_with fail
                  refine (in_c _ _ _ _).mono ?_; rintro e w' ⟨rfl, rfl⟩
                  cases hp1 : inB p.2.2.2.2.2 0 100 with
                  | false =>
                    have HF : Hid (boE l = 1) := Lib.hid (by rw [H.out, HS2.out, if_pos (by simp [boT, hp1])])
                    go_wp2_with fail
                    go_ret
                    exact ⟨by rw [HF.out]; rfl, hG5⟩
                  | true =>
                    have HF : Hid (boErr ⟨#[]⟩ l = boErr p.1 (l.drop (k + 1))) := Lib.hid (by rw [HS2.out, if_neg (by simp [boT, HTB.out, HM.out, hp1])])
                    clear hp1
                    go_wp2_with fail
                    go_roundw
                    case rel => exact ⟨k + 1, p.1, by omega, by go_num, rfl, HF.out, hG5⟩
                    case measure => simp [intOf]; omega
      · obtain rfl : k = l.length := by omega
        have HE2 : Hid (boE l = 0) := Lib.hid (by rw [H.out, HE.out, List.drop_length]; rfl)
        go_wp2_with fail
        go_ret
        exact ⟨by rw [HE2.out]; rfl, hG⟩
end Go.Proofs.YtddedckehllkoaaDoor

/- Tiers: CheckTiers; the reference's TiersFault. -/
namespace Go.Proofs.YtddedckehllkoaaDoor
open Go.RowKit

/-- A tier: before, permille. -/
abbrev Ti := Int × Int
def tiC (x : Ti) : Array Value := #[.int .i64 x.1, .int .i64 x.2]
theorem tiC_sz (x : Ti) : (tiC x).size = 2 := rfl
theorem ti_info (x : Ti) : (Tryd.prog.info? 105).map (·.size) = some (tiC x).size := (by kernel_rfl : (Tryd.prog.info? 105).map (·.size) = some 2)
def TiOk (l : List Ti) : Prop := ∀ x ∈ l, bnd x.1 ∧ bnd x.2
def tiAfter (b : Option Ti) (x : Ti) : Bool := match b with | none => false | some y => decide (y.1 ≤ x.1) || decide (x.2 < y.2)
def tiErr : Option Ti → List Ti → Int
  | _, [] => 0
  | b, x :: r => if inB x.1 1 5761440 = false then 1 else if inB x.2 0 1000 = false then 1 else if tiAfter b x = true then 7 else tiErr (some x) r
def tiE (l : List Ti) : Int := if 10 < l.length then 2 else tiErr none l
def TiRel (w : World) (l : List Ti) (i : Value) (wr : World) : Prop :=
  ∃ k : Nat, k ≤ l.length ∧ i = .int .i64 k ∧ tiErr none l = tiErr (prevAt l k) (l.drop k) ∧ G w wr none
theorem tiRow {W w : World} {bb bo n cap : Nat} {l : List Ti} (h : RdR W 2 tiC (.slice (some ⟨bb, bo, none⟩) n cap) l) (hG : G W w none) {k : Nat} {p : Ti} (hp : l[k]? = some p) :
    ∀ j v, (tiC p).toList[j]? = some v → w.cell? ((⟨bb, bo + k * 2, none⟩ : Addr).add j) = some v := fun j v hv => by
  rw [add_at]
  exact RdR.cell tiC_sz h hG hp j v hv
set_option maxRecDepth 100000 in
set_option maxHeartbeats 4000000 in
theorem checkTiers_c (v : Value) (l : List Ti) (w : World) (hr : RdR w 2 tiC v l) (hn : l.length ≤ 1000) :
    Calls Tryd.prog 15 #[v] w fun e w' => e = .returned (.int .i64 (tiE l)) ∧ G w w' none := by
  have HR := Lib.hid hr
  obtain ⟨a, cap, rfl, hcap, hm⟩ := RdR.form hr
  clear hr
  by_cases h30 : 10 < l.length
  · have H := Lib.hid (show tiE l = 2 by simp [tiE, h30])
    go_enter Tryd.func15, Tryd.ntmps15
    go_wp2_with fail
    go_ret
    exact ⟨by rw [H.out]; rfl, G.refl _ _⟩
  · have H := Lib.hid (show tiE l = tiErr none l by simp [tiE, h30])
    go_enter Tryd.func15, Tryd.ntmps15
    go_wp2_with fail
    go_loopw [10] (TiRel w l) (fun i _ => l.length - (intOf i).toNat)
    case atStart => exact ⟨0, by omega, rfl, rfl, G.refl _ _⟩
    case round =>
      obtain ⟨k, hkl, rfl, heq, hG⟩ := hrel
      have HE := Lib.hid heq
      clear heq
      by_cases hk : k < l.length
      · obtain ⟨p, hp⟩ : ∃ p, l[k]? = some p := ⟨_, List.getElem?_eq_getElem hk⟩
        have hdrop : l.drop k = p :: l.drop (k + 1) := by rw [List.drop_eq_getElem_cons hk, ← (List.getElem?_eq_some_iff.1 hp).2]
        obtain ⟨bb, bo, rfl, hbb, _⟩ := RdR.elem tiC_sz HR.out hG hp
        have HW := Lib.hid (tiRow HR.out hG hp)
        have HP := Lib.hid hp
        have HS : Hid (tiErr (prevAt l k) (l.drop k) = if inB p.1 1 5761440 = false then 1 else if inB p.2 0 1000 = false then 1 else if tiAfter (prevAt l k) p = true then 7 else tiErr (some p) (l.drop (k + 1))) := Lib.hid (by rw [hdrop]; rfl)
        have hB5 := Bk.new wr 105 (tiC p)
        have hG5 := hG.alloc (.cells (tiC p) 105)
        clear hdrop hp hG
        go_wp2_with (refine wpList_load_at rfl 105 _ rfl ⟨bb, bo + k * 2, none⟩ rfl #[.int .i64 p.1, .int .i64 p.2] _ HW.out Tryd.underlying105 rfl (ti_info p) ?_)
        have hB5 : Bk (wr.alloc (.cells #[.int .i64 p.1, .int .i64 p.2] 105)) wr.heap.size 105 (tiC p) := hB5
        have hG5 : G w (wr.alloc (.cells #[.int .i64 p.1, .int .i64 p.2] 105)) none := hG5
        clear HW
        have hg5 := hB5.lt
        generalize wr.alloc (.cells #[.int .i64 p.1, .int .i64 p.2] 105) = w5 at hB5 hG5 hg5 ⊢
        generalize wr.heap.size = g at hB5 hg5 ⊢
        have c0 : w5.cell? ⟨g, 0, none⟩ = some (.int .i64 p.1) := hB5.cell 0
        have c1 : w5.cell? ⟨g, 1, none⟩ = some (.int .i64 p.2) := hB5.cell 1
        refine (within_c _ _ _ _).mono ?_; rintro e w' ⟨rfl, rfl⟩
        cases h1 : inB p.1 1 5761440 with
        | false =>
          have HF : Hid (tiE l = 1) := Lib.hid (by rw [H.out, HE.out, HS.out, if_pos h1])
          go_wp2_with fail
          go_ret
          exact ⟨by rw [HF.out]; rfl, hG5⟩
        | true =>
          have H1 := Lib.hid h1
          clear h1
          go_wp2_with fail
          refine (within_c _ _ _ _).mono ?_; rintro e w' ⟨rfl, rfl⟩
          cases h2 : inB p.2 0 1000 with
          | false =>
            have HF : Hid (tiE l = 1) := Lib.hid (by rw [H.out, HE.out, HS.out, if_neg (by simp [H1.out]), if_pos h2])
            go_wp2_with fail
            go_ret
            exact ⟨by rw [HF.out]; rfl, hG5⟩
          | true =>
            have HS2 : Hid (tiErr none l = if tiAfter (prevAt l k) p = true then 7 else tiErr (some p) (l.drop (k + 1))) := Lib.hid (by rw [HE.out, HS.out, if_neg (by simp [H1.out]), if_neg (by simp [h2])])
            clear h2 HS HE
            go_wp2_with fail
            cases k with
            | zero =>
              have HF : Hid (tiErr none l = tiErr (prevAt l (0 + 1)) (l.drop (0 + 1))) := Lib.hid (by rw [HS2.out, if_neg (by simp [prevAt, tiAfter]), prevAt_succ l 0 p HP.out])
              clear HS2
              go_quiet (fail)
              have hGq := hG5.drewN nq
              go_wp2_with fail
              go_roundw
              case rel => exact ⟨0 + 1, by omega, by go_num, HF.out, hGq⟩
              case measure => simp [intOf]; omega
            | succ m =>
              obtain ⟨q, hq2⟩ : ∃ q, l[m]? = some q := ⟨_, List.getElem?_eq_getElem (by omega)⟩
              have HA : Hid (tiAfter (prevAt l (m + 1)) p = (decide (q.1 ≤ p.1) || decide (p.2 < q.2))) := Lib.hid (by rw [prevAt_succ l m q hq2]; rfl)
              have hsub : IntKind.i64.wrap (((m + 1 : Nat) : Int) - 1) = (m : Int) := by rw [show ((m + 1 : Nat) : Int) - 1 = (m : Int) by omega]; rw [IntKind.wrap_i64]; omega
              have d0 := RdR.cell tiC_sz HR.out hG5 hq2 0 (.int .i64 q.1) rfl
              have d1 := RdR.cell tiC_sz HR.out hG5 hq2 1 (.int .i64 q.2) rfl
              have hsub2 : IntKind.i64.wrap (m : Int) = (m : Int) := by rw [IntKind.wrap_i64]; omega
              have hsub3 : IntKind.i64.wrap ((m : Int) + 1 - 1) = (m : Int) := by rw [IntKind.wrap_i64]; omega
              have hm0 : (0 : Int) ≤ (m : Int) := Int.natCast_nonneg m
              have hml : (m : Int) < (l.length : Int) := by omega
              simp only [Nat.add_zero] at d0
              clear hq2
              rcases (show q.1 ≤ p.1 ∨ (p.1 < q.1 ∧ p.2 < q.2) ∨ (p.1 < q.1 ∧ q.2 ≤ p.2) by omega) with t1 | ⟨t1, t2⟩ | ⟨t1, t2⟩
              · have HF : Hid (tiE l = 7) := Lib.hid (by rw [H.out, HS2.out, if_pos (by rw [HA.out, decide_eq_true t1]; rfl)])
                go_quiet (fail)
                have hGq := hG5.drewN nq
                go_wp2_with fail
                go_ret
                exact ⟨by rw [HF.out]; rfl, hGq⟩
              · have HF : Hid (tiE l = 7) := Lib.hid (by rw [H.out, HS2.out, if_pos (by rw [HA.out, decide_eq_true t2, Bool.or_true])])
                have hd : decide (q.1 ≤ p.1) = false := decide_eq_false (by omega)
                go_quiet (fail)
                have hGq := hG5.drewN nq
                go_wp2_with fail
                go_ret
                exact ⟨by rw [HF.out]; rfl, hGq⟩
              · have HF : Hid (tiErr none l = tiErr (prevAt l (m + 1 + 1)) (l.drop (m + 1 + 1))) := Lib.hid (by rw [HS2.out, if_neg (by rw [HA.out, decide_eq_false (show ¬ q.1 ≤ p.1 by omega), decide_eq_false (show ¬ p.2 < q.2 by omega)]; decide), prevAt_succ l (m + 1) p HP.out])
                have hd : decide (q.1 ≤ p.1) = false := decide_eq_false (by omega)
                have hd2 : decide (p.2 < q.2) = false := decide_eq_false (by omega)
                go_quiet (fail)
                have hGq := hG5.drewN nq
                go_wp2_with fail
                go_roundw
                case rel => exact ⟨m + 1 + 1, by omega, by go_num, HF.out, hGq⟩
                case measure => simp [intOf]; omega
      · obtain rfl : k = l.length := by omega
        have HE2 : Hid (tiE l = 0) := Lib.hid (by rw [H.out, HE.out, List.drop_length]; rfl)
        go_wp2_with fail
        go_ret
        exact ⟨by rw [HE2.out]; rfl, hG⟩
set_option maxRecDepth 100000 in
set_option maxHeartbeats 4000000 in
theorem tiersFault_c (v : Value) (l : List Ti) (w : World) (hr : RdR w 2 tiC v l) (hn : l.length ≤ 1000) :
    Calls Tryd.prog 14 #[v] w fun e w' => e = .returned (.int .i64 (tiE l)) ∧ G w w' none := by
  have HR := Lib.hid hr
  obtain ⟨a, cap, rfl, hcap, hm⟩ := RdR.form hr
  clear hr
  by_cases h30 : 10 < l.length
  · have H := Lib.hid (show tiE l = 2 by simp [tiE, h30])
    go_enter Tryd.func14, Tryd.ntmps14
    go_wp2_with fail
    go_ret
    exact ⟨by rw [H.out]; rfl, G.refl _ _⟩
  · have H := Lib.hid (show tiE l = tiErr none l by simp [tiE, h30])
    go_enter Tryd.func14, Tryd.ntmps14
    go_wp2_with fail
    go_loopw [10] (TiRel w l) (fun i _ => l.length - (intOf i).toNat)
    case atStart => exact ⟨0, by omega, rfl, rfl, G.refl _ _⟩
    case round =>
      obtain ⟨k, hkl, rfl, heq, hG⟩ := hrel
      have HE := Lib.hid heq
      clear heq
      by_cases hk : k < l.length
      · obtain ⟨p, hp⟩ : ∃ p, l[k]? = some p := ⟨_, List.getElem?_eq_getElem hk⟩
        have hdrop : l.drop k = p :: l.drop (k + 1) := by rw [List.drop_eq_getElem_cons hk, ← (List.getElem?_eq_some_iff.1 hp).2]
        obtain ⟨bb, bo, rfl, hbb, _⟩ := RdR.elem tiC_sz HR.out hG hp
        have HW := Lib.hid (tiRow HR.out hG hp)
        have HP := Lib.hid hp
        have HS : Hid (tiErr (prevAt l k) (l.drop k) = if inB p.1 1 5761440 = false then 1 else if inB p.2 0 1000 = false then 1 else if tiAfter (prevAt l k) p = true then 7 else tiErr (some p) (l.drop (k + 1))) := Lib.hid (by rw [hdrop]; rfl)
        have hB5 := Bk.new wr 105 (tiC p)
        have hG5 := hG.alloc (.cells (tiC p) 105)
        clear hdrop hp hG
        go_wp2_with (refine wpList_load_at rfl 105 _ rfl ⟨bb, bo + k * 2, none⟩ rfl #[.int .i64 p.1, .int .i64 p.2] _ HW.out Tryd.underlying105 rfl (ti_info p) ?_)
        have hB5 : Bk (wr.alloc (.cells #[.int .i64 p.1, .int .i64 p.2] 105)) wr.heap.size 105 (tiC p) := hB5
        have hG5 : G w (wr.alloc (.cells #[.int .i64 p.1, .int .i64 p.2] 105)) none := hG5
        clear HW
        have hg5 := hB5.lt
        generalize wr.alloc (.cells #[.int .i64 p.1, .int .i64 p.2] 105) = w5 at hB5 hG5 hg5 ⊢
        generalize wr.heap.size = g at hB5 hg5 ⊢
        have c0 : w5.cell? ⟨g, 0, none⟩ = some (.int .i64 p.1) := hB5.cell 0
        have c1 : w5.cell? ⟨g, 1, none⟩ = some (.int .i64 p.2) := hB5.cell 1
        refine (in_c _ _ _ _).mono ?_; rintro e w' ⟨rfl, rfl⟩
        cases h1 : inB p.1 1 5761440 with
        | false =>
          have HF : Hid (tiE l = 1) := Lib.hid (by rw [H.out, HE.out, HS.out, if_pos h1])
          go_wp2_with fail
          go_ret
          exact ⟨by rw [HF.out]; rfl, hG5⟩
        | true =>
          have H1 := Lib.hid h1
          clear h1
          go_wp2_with fail
          refine (in_c _ _ _ _).mono ?_; rintro e w' ⟨rfl, rfl⟩
          cases h2 : inB p.2 0 1000 with
          | false =>
            have HF : Hid (tiE l = 1) := Lib.hid (by rw [H.out, HE.out, HS.out, if_neg (by simp [H1.out]), if_pos h2])
            go_wp2_with fail
            go_ret
            exact ⟨by rw [HF.out]; rfl, hG5⟩
          | true =>
            have HS2 : Hid (tiErr none l = if tiAfter (prevAt l k) p = true then 7 else tiErr (some p) (l.drop (k + 1))) := Lib.hid (by rw [HE.out, HS.out, if_neg (by simp [H1.out]), if_neg (by simp [h2])])
            clear h2 HS HE
            go_wp2_with fail
            cases k with
            | zero =>
              have HF : Hid (tiErr none l = tiErr (prevAt l (0 + 1)) (l.drop (0 + 1))) := Lib.hid (by rw [HS2.out, if_neg (by simp [prevAt, tiAfter]), prevAt_succ l 0 p HP.out])
              clear HS2
              go_quiet (fail)
              have hGq := hG5.drewN nq
              go_wp2_with fail
              go_roundw
              case rel => exact ⟨0 + 1, by omega, by go_num, HF.out, hGq⟩
              case measure => simp [intOf]; omega
            | succ m =>
              obtain ⟨q, hq2⟩ : ∃ q, l[m]? = some q := ⟨_, List.getElem?_eq_getElem (by omega)⟩
              have HA : Hid (tiAfter (prevAt l (m + 1)) p = (decide (q.1 ≤ p.1) || decide (p.2 < q.2))) := Lib.hid (by rw [prevAt_succ l m q hq2]; rfl)
              have hsub : IntKind.i64.wrap (((m + 1 : Nat) : Int) - 1) = (m : Int) := by rw [show ((m + 1 : Nat) : Int) - 1 = (m : Int) by omega]; rw [IntKind.wrap_i64]; omega
              have d0 := RdR.cell tiC_sz HR.out hG5 hq2 0 (.int .i64 q.1) rfl
              have d1 := RdR.cell tiC_sz HR.out hG5 hq2 1 (.int .i64 q.2) rfl
              have hsub2 : IntKind.i64.wrap (m : Int) = (m : Int) := by rw [IntKind.wrap_i64]; omega
              have hsub3 : IntKind.i64.wrap ((m : Int) + 1 - 1) = (m : Int) := by rw [IntKind.wrap_i64]; omega
              have hm0 : (0 : Int) ≤ (m : Int) := Int.natCast_nonneg m
              have hml : (m : Int) < (l.length : Int) := by omega
              simp only [Nat.add_zero] at d0
              clear hq2
              rcases (show q.1 ≤ p.1 ∨ (p.1 < q.1 ∧ p.2 < q.2) ∨ (p.1 < q.1 ∧ q.2 ≤ p.2) by omega) with t1 | ⟨t1, t2⟩ | ⟨t1, t2⟩
              · have HF : Hid (tiE l = 7) := Lib.hid (by rw [H.out, HS2.out, if_pos (by rw [HA.out, decide_eq_true t1]; rfl)])
                go_quiet (fail)
                have hGq := hG5.drewN nq
                go_wp2_with fail
                go_ret
                exact ⟨by rw [HF.out]; rfl, hGq⟩
              · have HF : Hid (tiE l = 7) := Lib.hid (by rw [H.out, HS2.out, if_pos (by rw [HA.out, decide_eq_true t2, Bool.or_true])])
                have hd : decide (q.1 ≤ p.1) = false := decide_eq_false (by omega)
                go_quiet (fail)
                have hGq := hG5.drewN nq
                go_wp2_with fail
                go_ret
                exact ⟨by rw [HF.out]; rfl, hGq⟩
              · have HF : Hid (tiErr none l = tiErr (prevAt l (m + 1 + 1)) (l.drop (m + 1 + 1))) := Lib.hid (by rw [HS2.out, if_neg (by rw [HA.out, decide_eq_false (show ¬ q.1 ≤ p.1 by omega), decide_eq_false (show ¬ p.2 < q.2 by omega)]; decide), prevAt_succ l (m + 1) p HP.out])
                have hd : decide (q.1 ≤ p.1) = false := decide_eq_false (by omega)
                have hd2 : decide (p.2 < q.2) = false := decide_eq_false (by omega)
                go_quiet (fail)
                have hGq := hG5.drewN nq
                go_wp2_with fail
                go_roundw
                case rel => exact ⟨m + 1 + 1, by omega, by go_num, HF.out, hGq⟩
                case measure => simp [intOf]; omega
      · obtain rfl : k = l.length := by omega
        have HE2 : Hid (tiE l = 0) := Lib.hid (by rw [H.out, HE.out, List.drop_length]; rfl)
        go_wp2_with fail
        go_ret
        exact ⟨by rw [HE2.out]; rfl, hG⟩
end Go.Proofs.YtddedckehllkoaaDoor

/- CancelFee; the reference's CancelOf. -/
namespace Go.Proofs.YtddedckehllkoaaDoor
open Go.RowKit

/-- The permille of the last tier that is meant. -/
def cnS (d a : Int) (x : Ti) : Int := if d < x.1 then x.2 else a
def cnP (l : List Ti) (d : Int) : Int := l.foldl (cnS d) 0
theorem cnP_succ {l : List Ti} {k : Nat} {p : Ti} (d : Int) (hp : l[k]? = some p) : cnP (l.take (k + 1)) d = cnS d (cnP (l.take k) d) p := by
  have hk : k < l.length := (List.getElem?_eq_some_iff.1 hp).1
  have e : l.take (k + 1) = l.take k ++ [p] := by
    rw [List.take_succ_eq_append_getElem hk, (List.getElem?_eq_some_iff.1 hp).2]
  unfold cnP
  rw [e, List.foldl_append]
  rfl
theorem cnP_rng {l : List Ti} (h : ∀ x ∈ l, 0 ≤ x.2 ∧ x.2 ≤ 1000) (d : Int) : 0 ≤ cnP l d ∧ cnP l d ≤ 1000 := by
  have : ∀ (r : List Ti) (a : Int), (∀ x ∈ r, 0 ≤ x.2 ∧ x.2 ≤ 1000) → 0 ≤ a ∧ a ≤ 1000 → 0 ≤ r.foldl (cnS d) a ∧ r.foldl (cnS d) a ≤ 1000 := by
    intro r
    induction r with
    | nil => intro a _ ha; exact ha
    | cons x r ih =>
      intro a hx ha
      refine ih _ (fun y hy => hx y (List.mem_cons_of_mem _ hy)) ?_
      unfold cnS
      split
      · exact hx x (List.mem_cons_self ..)
      · exact ha
  exact this l 0 h (by omega)
theorem tiErr_ok {l : List Ti} : ∀ {b : Option Ti}, tiErr b l = 0 → ∀ x ∈ l, 0 ≤ x.2 ∧ x.2 ≤ 1000 := by
  induction l with
  | nil => intro b _ x hx; cases hx
  | cons y r ih =>
    intro b h
    unfold tiErr at h
    split at h
    · exact absurd h (by decide)
    · split at h
      · exact absurd h (by decide)
      · rename_i h2
        split at h
        · exact absurd h (by decide)
        · intro x hx
          rcases List.mem_cons.1 hx with rfl | hx
          · simp only [inB, Bool.not_eq_false, Bool.and_eq_true, decide_eq_true_eq] at h2
            omega
          · exact ih h x hx
theorem tiE_ok {l : List Ti} (h : tiE l = 0) : ∀ x ∈ l, 0 ≤ x.2 ∧ x.2 ≤ 1000 := by
  unfold tiE at h
  split at h
  · exact absurd h (by decide)
  · exact tiErr_ok h
theorem boE_ok {b : Bo} (h : boE [b] = 0) : 0 ≤ b.2.2.1 ∧ b.2.2.1 < 5761440 := by
  have h1 : boErr ⟨#[]⟩ [b] = 0 := h
  unfold boErr at h1
  split at h1
  · exact absurd h1 (by decide)
  · split at h1
    · exact absurd h1 (by decide)
    · split at h1
      · exact absurd h1 (by decide)
      · split at h1
        · exact absurd h1 (by decide)
        · rename_i h2
          simp only [boT, Bool.not_eq_false, Bool.and_eq_true] at h2
          have := (timB_iff _ _).1 h2.1
          omega
theorem one_len (b : Bo) : ([b] : List Bo).length ≤ 1000 := by simp
theorem RdR.one {w : World} {g : Nat} {b : Bo} (h : Bk w g 31 (boC b)) : RdR w 6 boC (.slice (some ⟨g, 0, none⟩) 1 1) [b] := h.rd 6 1 rfl (by omega)
theorem BoOk.one {b : Bo} (h : boB b) : BoOk [b] := fun x hx => by
  obtain rfl := List.mem_singleton.1 hx
  exact h
def cfE (l : List Ti) (b : Bo) (c t : Int) : Int := if tiE l = 0 then (if boE [b] = 0 then (if inB c 0 1000000000 = false then 1 else if momB t = false then 1 else 0) else boE [b]) else tiE l
def cfN (l : List Ti) (b : Bo) (c t : Int) : Int := if cfE l b c t = 0 then c * cnP l (b.2.2.1 - t) / 1000 else 0
def CfRel (w : World) (l : List Ti) (d : Int) (g : Nat) (b : Bo) (s i : Value) (wr : World) : Prop :=
  ∃ k : Nat, k ≤ l.length ∧ i = .int .i64 k ∧ s = .int .i64 (cnP (l.take k) d) ∧ Bk wr g 31 (boC b) ∧ G w wr none
set_option maxRecDepth 100000 in
set_option maxHeartbeats 4000000 in
theorem cancelFee_c (v : Value) (l : List Ti) (b : Bo) (c t : Int) (w : World) (hr : RdR w 2 tiC v l) (hn : l.length ≤ 1000) (hb : boB b) :
    Calls Tryd.prog 13 #[v, .agg (boC b), .int .i64 c, .int .i64 t] w fun e w' => e = .returned (.tuple #[.int .i64 (cfN l b c t), .int .i64 (cfE l b c t)]) ∧ G w w' none := by
  have HR := Lib.hid hr
  have HB : Hid (boB b) := Lib.hid hb
  have hB0 := Bk.new w 31 (boC b)
  have hG0 := (G.refl w none).alloc (.cells (boC b) 31)
  obtain ⟨a, cap, rfl, hcap, hm⟩ := RdR.form hr
  clear hr hb
  go_enter Tryd.func13, Tryd.ntmps13
  go_wp2_with fail
  refine (checkTiers_c _ l _ (HR.out.quiet hG0) hn).mono ?_; rintro e w1 ⟨rfl, hG1⟩
  have hB := hB0.quiet hG1
  have hG := hG0.trans hG1
  clear hB0 hG0 hG1
  by_cases h0 : tiE l = 0
  · have HE : Hid (cfE l b c t = if boE [b] = 0 then (if inB c 0 1000000000 = false then 1 else if momB t = false then 1 else 0) else boE [b]) := Lib.hid (by rw [cfE, if_pos h0])
    have HOK := Lib.hid (tiE_ok h0)
    rw [h0]
    clear h0
    go_wp2_with (refine wpList_load_row rfl 31 _ rfl w.heap.size rfl 31 #[.string b.1, .string b.2.1, .int .i64 b.2.2.1, .int .i64 b.2.2.2.1, .int .i64 b.2.2.2.2.1, .int .i64 b.2.2.2.2.2] (0, 0) _ hB Tryd.underlying31 rfl (bo_info b) ?_)
    have hN2 : Bk (w1.alloc (.cells #[.string b.1, .string b.2.1, .int .i64 b.2.2.1, .int .i64 b.2.2.2.1, .int .i64 b.2.2.2.2.1, .int .i64 b.2.2.2.2.2] 31)) w1.heap.size 31 (boC b) := Bk.new w1 31 (boC b)
    have hG2 := hG.alloc (.cells #[.string b.1, .string b.2.1, .int .i64 b.2.2.1, .int .i64 b.2.2.2.1, .int .i64 b.2.2.2.2.1, .int .i64 b.2.2.2.2.2] 31)
    have hB2 := hB.alloc (.cells #[.string b.1, .string b.2.1, .int .i64 b.2.2.1, .int .i64 b.2.2.2.1, .int .i64 b.2.2.2.2.1, .int .i64 b.2.2.2.2.2] 31)
    clear hB hG
    refine (checkForm_c _ [b] _ (RdR.one hN2) (BoOk.one HB.out) (one_len b)).mono ?_; rintro e w3 ⟨rfl, hG3⟩
    have hB := hB2.quiet hG3
    have hG := hG2.trans hG3
    clear hN2 hB2 hG2 hG3
    by_cases h1 : boE [b] = 0
    · have HE2 : Hid (cfE l b c t = if inB c 0 1000000000 = false then 1 else if momB t = false then 1 else 0) := Lib.hid (by rw [HE.out, if_pos h1])
      obtain ⟨a0, a1⟩ := boE_ok h1
      rw [h1]
      clear h1 HE
      go_wp2_with fail
      refine (within_c _ _ _ _).mono ?_; rintro e w' ⟨rfl, rfl⟩
      cases hc : inB c 0 1000000000 with
      | false =>
        have HF : Hid (cfE l b c t = 1) := Lib.hid (by rw [HE2.out, if_pos hc])
        have HN : Hid (cfN l b c t = 0) := Lib.hid (by rw [cfN, if_neg (by rw [HF.out]; decide)])
        go_wp2_with fail
        go_ret2
        exact ⟨by rw [HF.out, HN.out]; rfl, hG⟩
      | true =>
        have HC := Lib.hid hc
        clear hc
        go_wp2_with fail
        refine (isMoment_c _ _).mono ?_; rintro e w' ⟨rfl, rfl⟩
        cases ht : momB t with
        | false =>
          have HF : Hid (cfE l b c t = 1) := Lib.hid (by rw [HE2.out, if_neg (by simp [HC.out]), if_pos ht])
          have HN : Hid (cfN l b c t = 0) := Lib.hid (by rw [cfN, if_neg (by rw [HF.out]; decide)])
          go_wp2_with fail
          go_ret2
          exact ⟨by rw [HF.out, HN.out]; rfl, hG⟩
        | true =>
          have HF : Hid (cfE l b c t = 0) := Lib.hid (by rw [HE2.out, if_neg (by simp [HC.out]), if_neg (by simp [ht])])
          have HN : Hid (cfN l b c t = c * cnP l (b.2.2.1 - t) / 1000) := Lib.hid (by rw [cfN, if_pos HF.out])
          obtain ⟨t0, t1⟩ : 0 ≤ t ∧ t < 5761440 := by simpa [momB] using ht
          obtain ⟨c0, c1⟩ : 0 ≤ c ∧ c ≤ 1000000000 := by simpa [inB] using HC.out
          clear ht HE2
          go_wp2_with fail
          go_loopw [12, 36] (CfRel w l (b.2.2.1 - t) w.heap.size b) (fun _ i _ => l.length - (intOf i).toNat)
          case atStart => exact ⟨0, by omega, rfl, rfl, hB, hG⟩
          case round =>
            clear hB hG
            obtain ⟨k, hkl, rfl, rfl, hB, hG⟩ := hrel
            by_cases hk : k < l.length
            · obtain ⟨p, hp⟩ : ∃ p, l[k]? = some p := ⟨_, List.getElem?_eq_getElem hk⟩
              have HP : Hid (cnP (l.take (k + 1)) (b.2.2.1 - t) = if b.2.2.1 - t < p.1 then p.2 else cnP (l.take k) (b.2.2.1 - t)) := Lib.hid (cnP_succ _ hp)
              obtain ⟨bb, bo, rfl, hbb, _⟩ := RdR.elem tiC_sz HR.out hG hp
              have HW := Lib.hid (tiRow HR.out hG hp)
              have hB5 := Bk.new wr 105 (tiC p)
              have hG5 := hG.alloc (.cells (tiC p) 105)
              have hB6 := hB.alloc (.cells (tiC p) 105)
              have cb : wr.cell? ⟨w.heap.size, 2, none⟩ = some (.int .i64 b.2.2.1) := hB.cell 2
              have hlt := hB.lt
              have HB6 := Lib.hid hB6
              have HG5 := Lib.hid hG5
              clear hp hG hB hB5 hB6 hG5
              rcases (show b.2.2.1 - t < p.1 ∨ p.1 ≤ b.2.2.1 - t by omega) with h2 | h2
              · have HQ : Hid (p.2 = cnP (l.take (k + 1)) (b.2.2.1 - t)) := Lib.hid (by rw [HP.out, if_pos h2])
                clear HP
                generalize cnP (l.take k) (b.2.2.1 - t) = N0
                go_wp2_with (refine wpList_load_at rfl 105 _ rfl ⟨bb, bo + k * 2, none⟩ rfl #[.int .i64 p.1, .int .i64 p.2] _ HW.out Tryd.underlying105 rfl (ti_info p) ?_)
                go_roundw
                case rel => exact ⟨k + 1, by omega, by go_num, by rw [← HQ.out], HB6.out, HG5.out⟩
                case measure => simp [intOf]; omega
              · have HQ : Hid (cnP (l.take k) (b.2.2.1 - t) = cnP (l.take (k + 1)) (b.2.2.1 - t)) := Lib.hid (by rw [HP.out, if_neg (by omega)])
                have h3 : ¬ b.2.2.1 - t < p.1 := by omega
                clear HP
                go_wp2_with (refine wpList_load_at rfl 105 _ rfl ⟨bb, bo + k * 2, none⟩ rfl #[.int .i64 p.1, .int .i64 p.2] _ HW.out Tryd.underlying105 rfl (ti_info p) ?_)
                go_roundw
                case rel => exact ⟨k + 1, by omega, by go_num, by rw [← HQ.out], HB6.out, HG5.out⟩
                case measure => simp [intOf]; omega
            · obtain rfl : k = l.length := by omega
              rw [List.take_length] at *
              obtain ⟨n0, n1⟩ := cnP_rng HOK.out (b.2.2.1 - t)
              generalize cnP l (b.2.2.1 - t) = N at HN n0 n1 ⊢
              have m0 : 0 ≤ c * N := Int.mul_nonneg c0 n0
              have m1 : c * N ≤ 1000000000000 := by
                have := Int.mul_le_mul c1 n1 n0 (by omega)
                omega
              go_wp2_with fail
              go_ret2
              exact ⟨by rw [HF.out, HN.out]; rfl, hG⟩
    · have HF : Hid (cfE l b c t = boE [b]) := Lib.hid (by rw [HE.out, if_neg h1])
      have HN : Hid (cfN l b c t = 0) := Lib.hid (by rw [cfN, if_neg (by rw [HF.out]; exact h1)])
      have h1' : (boE [b] != 0) = true := by rw [bne_iff_ne]; exact h1
      clear h1 HE
      generalize boE [b] = E at h1' HF ⊢
      go_wp2_with fail
      go_ret2
      exact ⟨by rw [HF.out, HN.out]; rfl, hG⟩
  · have HF : Hid (cfE l b c t = tiE l) := Lib.hid (by rw [cfE, if_neg h0])
    have HN : Hid (cfN l b c t = 0) := Lib.hid (by rw [cfN, if_neg (by rw [HF.out]; exact h0)])
    have h0' : (tiE l != 0) = true := by rw [bne_iff_ne]; exact h0
    clear h0
    generalize tiE l = E at h0' HF ⊢
    go_wp2_with fail
    go_ret2
    exact ⟨by rw [HF.out, HN.out]; rfl, hG⟩
def CcoRel (w : World) (l : List Ti) (d c : Int) (g : Nat) (b : Bo) (s i : Value) (wr : World) : Prop :=
  ∃ k : Nat, k ≤ l.length ∧ i = .int .i64 k ∧ s = .int .i64 (c * cnP (l.take k) d / 1000) ∧ Bk wr g 31 (boC b) ∧ G w wr none
set_option maxRecDepth 100000 in
set_option maxHeartbeats 4000000 in
theorem cancelOf_c (v : Value) (l : List Ti) (b : Bo) (c t : Int) (w : World) (hr : RdR w 2 tiC v l) (hn : l.length ≤ 1000) (h0 : tiE l = 0) (a0 : 0 ≤ b.2.2.1) (a1 : b.2.2.1 < 5761440) (t0 : 0 ≤ t) (t1 : t < 5761440) (c0 : 0 ≤ c) (c1 : c ≤ 1000000000) :
    Calls Tryd.prog 20 #[v, .agg (boC b), .int .i64 c, .int .i64 t] w fun e w' => e = .returned (.int .i64 (c * cnP l (b.2.2.1 - t) / 1000)) ∧ G w w' none := by
  have HR := Lib.hid hr
  have hB := Bk.new w 31 (boC b)
  have hG := (G.refl w none).alloc (.cells (boC b) 31)
  have HOK := Lib.hid (tiE_ok h0)
  obtain ⟨a, cap, rfl, hcap, hm⟩ := RdR.form hr
  clear hr h0
  go_enter Tryd.func20, Tryd.ntmps20
  go_wp2_with fail
  go_loopw [9, 14] (CcoRel w l (b.2.2.1 - t) c w.heap.size b) (fun _ i _ => l.length - (intOf i).toNat)
  case atStart => exact ⟨0, by omega, rfl, by rw [List.take_zero, show cnP [] (b.2.2.1 - t) = 0 from rfl, Int.mul_zero]; rfl, hB, hG⟩
  case round =>
    clear hB hG
    obtain ⟨k, hkl, rfl, rfl, hB, hG⟩ := hrel
    by_cases hk : k < l.length
    · obtain ⟨p, hp⟩ : ∃ p, l[k]? = some p := ⟨_, List.getElem?_eq_getElem hk⟩
      have HP : Hid (cnP (l.take (k + 1)) (b.2.2.1 - t) = if b.2.2.1 - t < p.1 then p.2 else cnP (l.take k) (b.2.2.1 - t)) := Lib.hid (cnP_succ _ hp)
      obtain ⟨n0, n1⟩ := HOK.out p (List.mem_of_getElem? hp)
      have m0 : 0 ≤ c * p.2 := Int.mul_nonneg c0 n0
      have m1 : c * p.2 ≤ 1000000000000 := by
        have := Int.mul_le_mul c1 n1 n0 (by omega)
        omega
      obtain ⟨bb, bo, rfl, hbb, _⟩ := RdR.elem tiC_sz HR.out hG hp
      have HW := Lib.hid (tiRow HR.out hG hp)
      have HB6 := Lib.hid (hB.alloc (.cells (tiC p) 105))
      have HG5 := Lib.hid (hG.alloc (.cells (tiC p) 105))
      have cb : wr.cell? ⟨w.heap.size, 2, none⟩ = some (.int .i64 b.2.2.1) := hB.cell 2
      have hlt := hB.lt
      clear hp hG hB
      rcases (show b.2.2.1 - t < p.1 ∨ p.1 ≤ b.2.2.1 - t by omega) with h2 | h2
      · have HQ : Hid (p.2 = cnP (l.take (k + 1)) (b.2.2.1 - t)) := Lib.hid (by rw [HP.out, if_pos h2])
        clear HP
        generalize c * cnP (l.take k) (b.2.2.1 - t) / 1000 = N0
        go_wp2_with (refine wpList_load_at rfl 105 _ rfl ⟨bb, bo + k * 2, none⟩ rfl #[.int .i64 p.1, .int .i64 p.2] _ HW.out Tryd.underlying105 rfl (ti_info p) ?_)
        go_roundw
        case rel => exact ⟨k + 1, by omega, by go_num, by rw [← HQ.out], HB6.out, HG5.out⟩
        case measure => simp [intOf]; omega
      · have HQ : Hid (cnP (l.take k) (b.2.2.1 - t) = cnP (l.take (k + 1)) (b.2.2.1 - t)) := Lib.hid (by rw [HP.out, if_neg (by omega)])
        have h3 : ¬ b.2.2.1 - t < p.1 := by omega
        clear HP
        go_wp2_with (refine wpList_load_at rfl 105 _ rfl ⟨bb, bo + k * 2, none⟩ rfl #[.int .i64 p.1, .int .i64 p.2] _ HW.out Tryd.underlying105 rfl (ti_info p) ?_)
        go_roundw
        case rel => exact ⟨k + 1, by omega, by go_num, by rw [← HQ.out], HB6.out, HG5.out⟩
        case measure => simp [intOf]; omega
    · obtain rfl : k = l.length := by omega
      rw [List.take_length] at *
      obtain ⟨N, hN⟩ : ∃ N, c * cnP l (b.2.2.1 - t) / 1000 = N := ⟨_, rfl⟩
      have HN := Lib.hid hN
      rw [hN]
      clear hN
      go_wp2_with fail
      go_ret
      exact ⟨by rw [HN.out]; rfl, hG⟩
end Go.Proofs.YtddedckehllkoaaDoor

/- basic.Lowest. -/
namespace Go.Proofs.YtddedckehllkoaaDoor
open Go.RowKit

def frC (a b : Int) : Array Value := #[.int .i64 a, .int .i64 b]
theorem fr_info (a b : Int) : (Tryd.prog.info? 117).map (·.size) = some (frC a b).size := (by kernel_rfl : (Tryd.prog.info? 117).map (·.size) = some 2)
theorem fr_one (a b : Int) : (frC a b).all (·.oneCell') = true := by simp [frC, Value.oneCell']
theorem quo_wrap (n a q : Nat) (hn : n ≤ 1000000000000000000) (hq : n / a = q) : IntKind.i64.wrap ((n : Int) / (a : Int)) = (q : Int) := by
  have h2 : q ≤ n := by rw [← hq]; exact Nat.div_le_self n a
  have h1 : (n : Int) / (a : Int) = (q : Int) := by rw [← hq]; rfl
  rw [h1, IntKind.wrap_i64]
  omega
def LowRel (n d : Nat) (s5 s6 : Value) (w wr : World) : Prop :=
  ∃ a b : Nat, s5 = .int .i64 a ∧ s6 = .int .i64 b ∧ Nat.gcd a b = Nat.gcd d n ∧ a ≤ 1000000000000000000 ∧ b ≤ 1000000000000000000 ∧ 0 < a ∧ Bk wr w.heap.size 117 (frC 0 0) ∧ G w wr none
set_option maxRecDepth 100000 in
set_option maxHeartbeats 2000000 in
theorem lowest_c (n d : Nat) (w : World) (hn : n ≤ 1000000000000000000) (hd : d ≤ 1000000000000000000) (h0 : 0 < d) :
    Calls Tryd.prog 109 #[.int .i64 n, .int .i64 d] w fun e w' => e = .returned (.agg (frC (n / Nat.gcd d n : Nat) (d / Nat.gcd d n : Nat))) ∧ G w w' none := by
  go_enter Tryd.func109, Tryd.ntmps109
  go_wp2_with fail
  go_loopw [5, 6] (fun s5 s6 wr => LowRel n d s5 s6 w wr) (fun _ i _ => (intOf i).toNat)
  case atStart => exact ⟨d, n, rfl, rfl, rfl, hd, hn, h0, Bk.new w _ _, (G.refl _ _).alloc _⟩
  case round =>
    obtain ⟨a, b, rfl, rfl, hg, ha, hb, a0, hB, hG⟩ := hrel
    have HG := Lib.hid hg
    clear hg
    by_cases hb0 : b = 0
    · subst hb0
      have hag : a = Nat.gcd d n := by rw [← HG.out]; simp
      have HA := Lib.hid hag
      clear hag
      obtain ⟨q1, hq1⟩ : ∃ q, n / a = q := ⟨_, rfl⟩
      obtain ⟨q2, hq2⟩ : ∃ q, d / a = q := ⟨_, rfl⟩
      have hane : ¬ a = 0 := by omega
      have hw1 := quo_wrap n a q1 hn hq1
      have hw2 := quo_wrap d a q2 hd hq2
      have HQ1 := Lib.hid hq1
      have HQ2 := Lib.hid hq2
      clear hq1 hq2
      go_wp2_with fail
      have HQQ : Hid (Ending.returned (.agg (frC q1 q2)) = .returned (.agg (frC (n / Nat.gcd d n : Nat) (d / Nat.gcd d n : Nat)))) := Lib.hid (by rw [← HA.out, HQ1.out, HQ2.out])
      go_still_tail 7, (by kernel_rfl)
      change wpList _ _ _ _ _ wr.drew
      have hBd := hB.quiet ((G.refl wr none).drew)
      have hGd := hG.drew
      clear hB hG
      generalize wr.drew = w2 at hBd hGd ⊢
      go_wp2_with (refine wpList_store_row rfl 117 _ _ rfl w.heap.size (frC q1 q2) rfl rfl 117 _ hBd (fr_info q1 q2) rfl (fr_one q1 q2) ?_)
      refine bodyPost_ret (results_cell_row rfl _ _ w.heap.size 117 (frC q1 q2) (0, 0) _ rfl (hBd.setRow _) Tryd.underlying117 rfl (fr_info q1 q2)) rfl ?_
      exact ⟨HQQ.out, hGd.setRow (.inl (Nat.le_refl _)) _⟩
    · have hbp : 0 < b := by omega
      have hne : ((b : Int) != 0) = true := by rw [bne_iff_ne]; omega
      have hbq : ((b : Int) == 0) = false := by rw [beq_eq_false_iff_ne]; omega
      have htm : (a : Int).tmod (b : Int) = ((a % b : Nat) : Int) := by rw [Int.tmod_eq_emod_of_nonneg (by omega)]; rfl
      have hmw : IntKind.i64.wrap ((a % b : Nat) : Int) = ((a % b : Nat) : Int) := by have := Nat.mod_lt a hbp; rw [IntKind.wrap_i64]; omega
      have HML := Lib.hid (Nat.mod_lt a hbp)
      go_wp2_with fail
      go_quiet (fail)
      have hGq := hG.drewN nq
      have hBq := hB.drewN nq
      go_wp2_with fail
      go_roundw
      case rel => exact ⟨b, a % b, rfl, rfl, by rw [← HG.out, Nat.gcd_comm a b]; exact (Nat.gcd_rec b a).symm ▸ by rw [Nat.gcd_comm], hb, by have := HML.out; omega, hbp, hBq, hGq⟩
      case measure => have := HML.out; simp [intOf]; omega
end Go.Proofs.YtddedckehllkoaaDoor

/- The law's own 'booked': the odds of one booking. -/
namespace Go.Proofs.YtddedckehllkoaaDoor
open Go.RowKit

def coE (l : List Bo) : Int := if boE l = 0 then (if 9 < l.length then 2 else 0) else boE l
set_option maxRecDepth 100000 in
set_option maxHeartbeats 1000000 in
theorem checkOdds_c (v : Value) (l : List Bo) (w : World) (hr : RdR w 6 boC v l) (hl : BoOk l) (hn : l.length ≤ 1000) :
    Calls Tryd.prog 107 #[v] w fun e w' => e = .returned (.int .i64 (coE l)) ∧ G w w' none := by
  have HR := Lib.hid hr
  obtain ⟨a, cap, rfl, hcap, hm⟩ := RdR.form hr
  clear hr
  go_enter Tryd.func107, Tryd.ntmps107
  go_wp2_with fail
  refine (checkForm_c _ l _ HR.out hl hn).mono ?_; rintro e w1 ⟨rfl, hG1⟩
  by_cases h0 : boE l = 0
  · have HE : Hid (coE l = if 9 < l.length then 2 else 0) := Lib.hid (by rw [coE, if_pos h0])
    rw [h0]
    clear h0
    by_cases h9 : 9 < l.length
    · have HF : Hid (coE l = 2) := Lib.hid (by rw [HE.out, if_pos h9])
      go_wp2_with fail
      go_ret
      exact ⟨by rw [HF.out]; rfl, hG1⟩
    · have HF : Hid (coE l = 0) := Lib.hid (by rw [HE.out, if_neg h9])
      go_wp2_with fail
      go_ret
      exact ⟨by rw [HF.out]; rfl, hG1⟩
  · have HF : Hid (coE l = boE l) := Lib.hid (by rw [coE, if_neg h0])
    have h0' : (boE l != 0) = true := by rw [bne_iff_ne]; exact h0
    clear h0
    generalize boE l = E at h0' HF ⊢
    go_wp2_with fail
    go_ret
    exact ⟨by rw [HF.out]; rfl, hG1⟩
def bo1 : Bo := (⟨#[97]⟩, ⟨#[99]⟩, 0, 1, 0, 50)
set_option maxRecDepth 100000 in
set_option maxHeartbeats 4000000 in
theorem casesOf1_c (w : World) (b : Nat) (h : Bk w b 31 (boC bo1)) :
    Calls Tryd.prog 108 #[.slice (some ⟨b, 0, none⟩) 1 1] w fun e w' => ∃ g, e = .returned (.tuple #[.slice (some ⟨g, 0, none⟩) 2 2, .int .i64 100]) ∧ Bk w' g 3 #[.int .i64 50, .int .i64 50] ∧ G w w' none := by
  have HA := Lib.hid h.at_
  have hb := h.lt
  have h1 := h.alloc (.cells #[.int .i64 1] 3)
  have hG1 := (G.refl w none).alloc (.cells #[.int .i64 1] 3)
  have hN1 := Bk.new w 3 #[.int .i64 1]
  have HA1 := Lib.hid h1.at_
  have hms : ∀ w : World, (Instr.makeSlice 22 (.int .i64 2) (.int .i64 2)).run Tryd.prog w = .ok (.slice (some ⟨w.heap.size, 0, none⟩) 2 2) (w.alloc (.cells #[.int .i64 0, .int .i64 0] 3)) := fun _ => by kernel_rfl
  clear h
  go_enter Tryd.func108, Tryd.ntmps108
  go_wp2_with fail
  refine wp_loop_rounds 2 ?_
  rw [rounds_succ]
  go_wp2_with (refine wpList_load_at rfl 31 _ rfl ⟨b, 0, none⟩ rfl #[.string ⟨#[97]⟩, .string ⟨#[99]⟩, .int .i64 0, .int .i64 1, .int .i64 0, .int .i64 50] _ HA1.out Tryd.underlying31 rfl (bo_info bo1) ?_)
  refine wp_loop_rounds 2 ?_
  rw [rounds_succ]
  go_wp2_with fail
  have hP : Bk (((w.alloc (.cells #[.int .i64 1] 3)).alloc (.cells #[.string ⟨#[97]⟩, .string ⟨#[99]⟩, .int .i64 0, .int .i64 1, .int .i64 0, .int .i64 50] 31)).alloc (.cells #[.int .i64 0, .int .i64 0] 3)) (w.heap.size + 1) 31 (boC bo1) := (Bk.newAt (w := w.alloc (.cells #[.int .i64 1] 3)) (b := w.heap.size + 1) (by simp) 31 (boC bo1)).alloc _
  have hN : Bk (((w.alloc (.cells #[.int .i64 1] 3)).alloc (.cells #[.string ⟨#[97]⟩, .string ⟨#[99]⟩, .int .i64 0, .int .i64 1, .int .i64 0, .int .i64 50] 31)).alloc (.cells #[.int .i64 0, .int .i64 0] 3)) (w.heap.size + 1 + 1) 3 #[.int .i64 0, .int .i64 0] := Bk.newAt (w := ((w.alloc (.cells #[.int .i64 1] 3)).alloc (.cells #[.string ⟨#[97]⟩, .string ⟨#[99]⟩, .int .i64 0, .int .i64 1, .int .i64 0, .int .i64 50] 31))) (b := w.heap.size + 1 + 1) (by simp) 3 #[.int .i64 0, .int .i64 0]
  have hO : Bk (((w.alloc (.cells #[.int .i64 1] 3)).alloc (.cells #[.string ⟨#[97]⟩, .string ⟨#[99]⟩, .int .i64 0, .int .i64 1, .int .i64 0, .int .i64 50] 31)).alloc (.cells #[.int .i64 0, .int .i64 0] 3)) w.heap.size 3 #[.int .i64 1] := ((Bk.new w 3 #[.int .i64 1]).alloc _).alloc _
  have hG : G w (((w.alloc (.cells #[.int .i64 1] 3)).alloc (.cells #[.string ⟨#[97]⟩, .string ⟨#[99]⟩, .int .i64 0, .int .i64 1, .int .i64 0, .int .i64 50] 31)).alloc (.cells #[.int .i64 0, .int .i64 0] 3)) none := (((G.refl w none).alloc _).alloc _).alloc _
  clear h1 hG1 hN1 HA HA1
  generalize (((w.alloc (.cells #[.int .i64 1] 3)).alloc (.cells #[.string ⟨#[97]⟩, .string ⟨#[99]⟩, .int .i64 0, .int .i64 1, .int .i64 0, .int .i64 50] 31)).alloc (.cells #[.int .i64 0, .int .i64 0] 3)) = w4 at hP hN hO hG ⊢
  have p5 : w4.cell? ⟨w.heap.size + 1, 5, none⟩ = some (.int .i64 50) := hP.cell 5
  have n0 : w4.cell? ⟨w.heap.size + 1 + 1, 0, none⟩ = some (.int .i64 0) := hN.cell 0
  have f0 : w4.frozen? ⟨w.heap.size + 1 + 1, 0, none⟩ = false := hN.free 0
  go_still_tail 11, (by kernel_rfl)
  change wpList _ _ _ _ _ w4.drew
  have hPd := hP.quiet ((G.refl w4 none).drew)
  have hOd := hO.quiet ((G.refl w4 none).drew)
  have hNd := hN.quiet ((G.refl w4 none).drew)
  have hGd := hG.drew
  clear hP hN hO hG p5 n0 f0
  generalize w4.drew = w5 at hPd hOd hNd hGd ⊢
  have n0 : w5.cell? ⟨w.heap.size + 1 + 1, 0, none⟩ = some (.int .i64 0) := hNd.cell 0
  have f0 : w5.frozen? ⟨w.heap.size + 1 + 1, 0, none⟩ = false := hNd.free 0
  have hN : Bk (w5.setCell ⟨w.heap.size + 1 + 1, 0, none⟩ (.int .i64 50)) (w.heap.size + 1 + 1) 3 #[.int .i64 50, .int .i64 0] := hNd.set 0 _
  have hP := hPd.far (p := ⟨w.heap.size + 1 + 1, 0, none⟩) (show w.heap.size + 1 ≠ w.heap.size + 1 + 1 by omega) (.int .i64 50)
  have hG := hGd.setCell (p := ⟨w.heap.size + 1 + 1, 0, none⟩) (.inl (show w.heap.size ≤ w.heap.size + 1 + 1 by omega)) (.int .i64 50)
  clear hPd hNd hOd hGd
  go_wp2_with fail
  generalize w5.setCell ⟨w.heap.size + 1 + 1, 0, none⟩ (.int .i64 50) = w6 at hP hN hG ⊢
  have p5 : w6.cell? ⟨w.heap.size + 1, 5, none⟩ = some (.int .i64 50) := hP.cell 5
  have n1 : w6.cell? ⟨w.heap.size + 1 + 1, 1, none⟩ = some (.int .i64 0) := hN.cell 1
  have hw1 : IntKind.i64.wrap 1 = 1 := by decide
  have f1 : w6.frozen? ⟨w.heap.size + 1 + 1, 1, none⟩ = false := hN.free 1
  go_still_tail 11, (by kernel_rfl)
  change wpList _ _ _ _ _ w6.drew
  have hNd := hN.quiet ((G.refl w6 none).drew)
  have hGd := hG.drew
  clear hP hN hG p5 n1 f1
  generalize w6.drew = w7 at hNd hGd ⊢
  have n1 : w7.cell? ⟨w.heap.size + 1 + 1, 1, none⟩ = some (.int .i64 0) := hNd.cell 1
  have f1 : w7.frozen? ⟨w.heap.size + 1 + 1, 1, none⟩ = false := hNd.free 1
  have hN : Bk (w7.setCell ⟨w.heap.size + 1 + 1, 1, none⟩ (.int .i64 50)) (w.heap.size + 1 + 1) 3 #[.int .i64 50, .int .i64 50] := hNd.set 1 _
  have hG := hGd.setCell (p := ⟨w.heap.size + 1 + 1, 1, none⟩) (.inl (show w.heap.size ≤ w.heap.size + 1 + 1 by omega)) (.int .i64 50)
  clear hNd hGd
  go_wp2_with fail
  rw [rounds_succ]
  go_wp2_with fail
  rw [rounds_succ]
  go_wp2_with fail
  go_ret2
  exact ⟨_, rfl, hN, hG⟩
theorem bo1_ok : boB bo1 := ⟨small_of (by decide), small_of (by decide), by unfold bnd bo1; dsimp only; omega, by unfold bnd bo1; dsimp only; omega, by unfold bnd bo1; dsimp only; omega, by unfold bnd bo1; dsimp only; omega⟩
theorem coE_one : coE [bo1] = 0 := by
  have h1 : boE [bo1] = 0 := by
    show boErr ⟨#[]⟩ [bo1] = 0
    unfold boErr bo1
    dsimp only
    rw [if_neg (by rw [show keyB ⟨#[97]⟩ = true by decide]; decide), if_neg (by rw [show keyB ⟨#[99]⟩ = true by decide]; decide), if_neg (by rw [leB_cmp]; decide), if_neg (by decide)]
    rfl
  rw [coE, if_pos h1, if_neg (by decide)]
/-! A row of fractions that the call owns. -/
abbrev Fr := Int × Int
def frV (x : Fr) : Array Value := frC x.1 x.2
theorem frV_sz (x : Fr) : (frV x).size = 2 := rfl
abbrev OwnFr (w : World) (base : Nat) (v : Value) (l : List Fr) : Prop := w.ownsRow base 117 2 v l.length (rowL frV l)
theorem fr_row : (Tryd.prog.info? 117).map (fun i => (i.zero, i.size, i.bytes)) = some (some (.agg (frC 0 0)), 2, 16) := by kernel_rfl
theorem frV_one (r : Fr) : ∀ u ∈ (frV r).toList, u.oneCell' = true := by
  intro u hu
  simp [frV, frC] at hu
  rcases hu with rfl | rfl <;> rfl
theorem wp_append_fr {w : World} {o : Oper} {a : Act} {K : Act → World → Prop} {Q : Exit → Act → World → Prop} (s x : Operand)
    (ho : o.op = .call { callee := .builtin .append, args := #[s, x], argTypes := #[112, 112] }) (base : Nat) (v : Value) (l : List Fr) (hs : a.eval s = v) (hown : OwnFr w base v l)
    (g : Nat) (r : Fr) (hx : a.eval x = .slice (some ⟨g, 0, none⟩) 1 1) (hb : Bk w g 117 (frV r)) (hl : l.length ≤ 1000) (hbase : base ≤ w.heap.size)
    (hK : ∀ v' w', OwnFr w' base v' (l ++ [r]) → w.grownBy w' v.ownBlock → K (a.put o.dst v') w') : o.wp Tryd.prog a w K Q := by
  obtain ⟨i0, hi, hz0, hz1, hz2⟩ := info_parts fr_row
  refine wp_append_own w s x 112 ho base 117 i0 _ 2 16 Tryd.underlying112 hi hz0 hz1 hz2 rfl (by decide) v l.length (rowL frV l) hs hown ⟨g, 0, none⟩ 1 1 (frV r).toList hx rfl hb.at_ (frV_one r) (by unfold maxLen; omega) (by omega) hbase ?_
  intro v' w' h1 h2 _
  refine hK v' w' ?_ h2
  unfold OwnFr
  rw [List.length_append, rowL_snoc]
  exact h1
theorem OwnFr.alloc {w : World} {base : Nat} {v : Value} {l : List Fr} (h : OwnFr w base v l) (o : Obj) : OwnFr (w.alloc o) base v l := World.ownsRow.alloc h o
theorem OwnFr.quiet {w w' : World} {base : Nat} {v : Value} {l : List Fr} (h : OwnFr w base v l) (hg : G w w' none) : OwnFr w' base v l :=
  World.ownsRow.kept h hg (Classical.em _)
set_option maxRecDepth 100000 in
set_option maxHeartbeats 4000000 in
theorem spread1_c (w : World) (b : Nat) (h : Bk w b 31 (boC bo1)) :
    Calls Tryd.prog 76 #[.slice (some ⟨b, 0, none⟩) 1 1] w fun e w' => ∃ v, e = .returned (.tuple #[v, .int .i64 0]) ∧ OwnFr w' w.heap.size v [(1, 2), (1, 2)] ∧ G w w' none := by
  go_enter Tryd.func76, Tryd.ntmps76
  go_wp2_with fail
  refine (checkOdds_c _ [bo1] _ (RdR.one h) (BoOk.one bo1_ok) (one_len bo1)).mono ?_; rintro e w1 ⟨rfl, hG1⟩
  rw [coE_one]
  have h1 := h.quiet hG1
  go_wp2_with fail
  refine (casesOf1_c _ b h1).mono ?_; rintro e w2 ⟨g, rfl, hN2, hG2⟩
  have hG02 := hG1.trans hG2
  clear hG1 hG2 h h1
  have c0 : w2.cell? ⟨g, 0, none⟩ = some (.int .i64 50) := hN2.cell 0
  go_wp2_with fail
  refine wp_loop_rounds 3 ?_
  rw [rounds_succ]
  go_wp2_with fail
  refine (lowest_c 50 100 _ (by omega) (by omega) (by omega)).mono ?_; rintro e w3 ⟨rfl, hG3⟩
  rw [show frC ((50 / Nat.gcd 100 50 : Nat) : Int) ((100 / Nat.gcd 100 50 : Nat) : Int) = #[.int .i64 1, .int .i64 2] by rfl]
  have hN3 := (hN2.quiet hG3).alloc (.cells #[.int .i64 1, .int .i64 2] 117)
  have hG03 := (hG02.trans hG3).alloc (.cells #[.int .i64 1, .int .i64 2] 117)
  have hz3 := hG03.size
  clear hN2 hG02 hG3 c0
  go_wp2_with (at_builtin; refine wpList_plain rfl fun K' hK' => wp_append_fr _ _ rfl w.heap.size (.slice none 0 0) [] rfl (World.ownsRow_nil _ _ _ _) w3.heap.size (1, 2) rfl (Bk.new w3 _ _) (by simp) hz3 ?_; intro v1 w4 hown1 hgrow1; refine hK' _ _ ?_)
  have hN4 := hN3.quiet hgrow1
  have hG04 := hG03.trans hgrow1
  clear hN3 hG03 hz3 hgrow1
  have c1 : w4.cell? ⟨g, 1, none⟩ = some (.int .i64 50) := hN4.cell 1
  rw [rounds_succ]
  go_wp2_with fail
  refine (lowest_c 50 100 _ (by omega) (by omega) (by omega)).mono ?_; rintro e w5 ⟨rfl, hG5⟩
  rw [show frC ((50 / Nat.gcd 100 50 : Nat) : Int) ((100 / Nat.gcd 100 50 : Nat) : Int) = #[.int .i64 1, .int .i64 2] by rfl]
  have hown2 := (hown1.quiet hG5).alloc (.cells #[.int .i64 1, .int .i64 2] 117)
  have hG05 := (hG04.trans hG5).alloc (.cells #[.int .i64 1, .int .i64 2] 117)
  have hz5 := hG05.size
  clear hN4 hG04 hG5 c1 hown1
  go_wp2_with (at_builtin; refine wpList_plain rfl fun K' hK' => wp_append_fr _ _ rfl w.heap.size v1 [(1, 2)] rfl hown2 w5.heap.size (1, 2) rfl (Bk.new w5 _ _) (by simp) hz5 ?_; intro v2 w6 hown3 hgrow2; refine hK' _ _ ?_)
  have hG06 := hG05.other hgrow2 (fun j e => .inl (World.ownsRow.lt hown2 j e).1)
  rw [rounds_succ]
  go_wp2_with fail
  go_ret2
  exact ⟨_, rfl, hown3, hG06⟩
theorem fr_neq (x y : Fr) (w : World) : (binOp .neq 117 (.agg (frV x)) (.agg (frV y))).run Tryd.prog w = .ok (.bool (!(decide (x = y)))) w := by
  obtain ⟨a, b⟩ := x
  obtain ⟨c, d⟩ := y
  have ht : Tryd.prog.underlying 117 = some (.struct (Tryd.prog.fieldsOf 117)) := by kernel_rfl
  have hp : Tryd.prog.stoodInHeld 117 = false := by kernel_rfl
  rw [run_neq_struct, run_equalIn_agg w 9999 117 _ _ ht hp]
  simp [frV, frC, Tryd.underlying117, Tryd.underlying3, go_sem]
  by_cases h1 : a = c <;> by_cases h2 : b = d <;> simp [h1, h2]
def EqfRel (l m : List Fr) (w : World) (i : Value) (wr : World) : Prop := ∃ k n : Nat, k ≤ l.length ∧ i = .int .i64 k ∧ l.take k = m.take k ∧ wr = w.drewN n
theorem take_succ_eq {l m : List Fr} {k : Nat} {x : Fr} (h : l.take k = m.take k) (hx : l[k]? = some x) (hy : m[k]? = some x) : l.take (k + 1) = m.take (k + 1) := by
  rw [List.take_add_one, List.take_add_one, h, hx, hy]
set_option maxRecDepth 100000 in
set_option maxHeartbeats 4000000 in
theorem frEqual_c (v u : Value) (l m : List Fr) (w : World) (hr : RdR w 2 frV v l) (hs : RdR w 2 frV u m) (hn : l.length ≤ 1000000) :
    Calls Tryd.prog 77 #[v, u] w fun e w' => e = .returned (.bool (decide (l = m))) ∧ G w w' none := by
  have HR := Lib.hid hr
  have HS := Lib.hid hs
  obtain ⟨a, cap, rfl, hcap, hm1⟩ := RdR.form hr
  obtain ⟨a2, cap2, rfl, hcap2, hm2⟩ := RdR.form hs
  clear hr hs
  by_cases hlen : l.length = m.length
  · have hlq : ((l.length : Int) != (m.length : Int)) = false := by rw [hlen]; simp
    have hlq2 : ((m.length : Int) != (l.length : Int)) = false := by rw [hlen]; simp
    have HL := Lib.hid hlen
    clear hlen
    go_enter Tryd.func77, Tryd.ntmps77
    go_wp2_with fail
    go_loopw [13] (EqfRel l m w) (fun i _ => l.length - (intOf i).toNat)
    case atStart => exact ⟨0, 0, by omega, rfl, rfl, rfl⟩
    case round =>
      obtain ⟨k, n, hk, rfl, heq, rfl⟩ := hrel
      have HE := Lib.hid heq
      clear heq
      by_cases hlt : k < l.length
      · obtain ⟨x, hx⟩ : ∃ x, l[k]? = some x := ⟨_, List.getElem?_eq_getElem hlt⟩
        obtain ⟨y, hy⟩ : ∃ y, m[k]? = some y := ⟨_, List.getElem?_eq_getElem (by rw [← HL.out]; exact hlt)⟩
        have hlt2 : k < m.length := by have := HL.out; omega
        obtain ⟨bb, bo, rfl, hbb, _⟩ := RdR.elem frV_sz HR.out (G.refl w none) hx
        obtain ⟨b2, o2, rfl, hb2, _⟩ := RdR.elem frV_sz HS.out (G.refl w none) hy
        have d0 := RdR.cell frV_sz HR.out (G.refl w none) hx 0 (.int .i64 x.1) rfl
        have d1 := RdR.cell frV_sz HR.out (G.refl w none) hx 1 (.int .i64 x.2) rfl
        have e0 := RdR.cell frV_sz HS.out (G.refl w none) hy 0 (.int .i64 y.1) rfl
        have e1 := RdR.cell frV_sz HS.out (G.refl w none) hy 1 (.int .i64 y.2) rfl
        simp only [Nat.add_zero] at d0 e0
        have HX := Lib.hid hx
        have HY := Lib.hid hy
        clear hx hy
        by_cases hxy : x = y
        · have hnq : ∀ w : World, (binOp .neq 117 (.agg #[.int .i64 x.1, .int .i64 x.2]) (.agg #[.int .i64 y.1, .int .i64 y.2])).run Tryd.prog w = .ok (.bool false) w := fun w => by
            have := fr_neq x y w
            rw [decide_eq_true hxy] at this
            exact this
          have HT : Hid (l.take (k + 1) = m.take (k + 1)) := Lib.hid (take_succ_eq HE.out HX.out (by rw [hxy]; exact HY.out))
          clear hxy HX HY
          go_wp2_with fail
          go_quiet (fail)
          go_wp2_with fail
          go_roundw
          case rel => exact ⟨k + 1, _, by omega, by go_num, HT.out, rfl⟩
          case measure => simp [intOf]; omega
        · have hnq : ∀ w : World, (binOp .neq 117 (.agg #[.int .i64 x.1, .int .i64 x.2]) (.agg #[.int .i64 y.1, .int .i64 y.2])).run Tryd.prog w = .ok (.bool true) w := fun w => by
            have := fr_neq x y w
            rw [decide_eq_false hxy] at this
            exact this
          have HT : Hid (decide (l = m) = false) := Lib.hid (decide_eq_false (fun e => hxy (by have h1 := HX.out; rw [e, HY.out] at h1; exact (Option.some.inj h1).symm)))
          clear hxy HX HY
          go_wp2_with fail
          go_quiet (fail)
          go_wp2_with fail
          go_ret
          exact ⟨ret_bool HT.out.symm, ((G.refl _ _).drewN _).drewN _⟩
      · obtain rfl : k = l.length := by omega
        have HT : Hid (decide (l = m) = true) := Lib.hid (decide_eq_true (by have h := HE.out; rwa [List.take_length, HL.out, List.take_length] at h))
        go_wp2_with fail
        go_ret
        exact ⟨ret_bool HT.out.symm, (G.refl _ _).drewN _⟩
  · have hlq : ((l.length : Int) != (m.length : Int)) = true := by rw [bne_iff_ne]; omega
    have hlq2 : ¬ l.length = m.length := hlen
    have HT : Hid (decide (l = m) = false) := Lib.hid (decide_eq_false (fun e => hlen (by rw [e])))
    clear hlen
    go_enter Tryd.func77, Tryd.ntmps77
    go_wp2_with fail
    go_ret
    exact ⟨ret_bool HT.out.symm, G.refl _ _⟩
set_option maxRecDepth 100000 in
set_option maxHeartbeats 4000000 in
theorem booked_c (w : World) : Calls Tryd.prog 21 #[] w fun e w' => e = .returned (.bool true) ∧ G w w' none := by
  have hB := Bk.new w 31 (boC bo1)
  have hG := (G.refl w none).alloc (.cells (boC bo1) 31)
  go_enter Tryd.func21, Tryd.ntmps21
  go_wp2_with fail
  refine (spread1_c _ _ hB).mono ?_; rintro e w1 ⟨v, rfl, hown, hG1⟩
  have hG01 := hG.trans hG1
  have hown2 := hown.alloc (.cells #[.int .i64 1, .int .i64 2, .int .i64 1, .int .i64 2] 117)
  have hN2 : Bk (w1.alloc (.cells #[.int .i64 1, .int .i64 2, .int .i64 1, .int .i64 2] 117)) w1.heap.size 117 #[.int .i64 1, .int .i64 2, .int .i64 1, .int .i64 2] := Bk.new _ _ _
  have hG02 := hG01.alloc (.cells #[.int .i64 1, .int .i64 2, .int .i64 1, .int .i64 2] 117)
  go_wp2_with fail
  refine (frEqual_c v _ [(1, 2), (1, 2)] [(1, 2), (1, 2)] _ (Rd.of_owns hown2) (hN2.rd 2 2 rfl (by omega)) (by decide)).mono ?_; rintro e w3 ⟨rfl, hG3⟩
  rw [show decide (([(1, 2), (1, 2)] : List Fr) = [(1, 2), (1, 2)]) = true by decide]
  go_wp2_with fail
  go_ret
  exact ⟨rfl, hG02.trans hG3⟩
end Go.Proofs.YtddedckehllkoaaDoor

/- slices.Equal of moves. Written by geneq.py. -/
namespace Go.Proofs.YtddedckehllkoaaDoor
open Go.RowKit

theorem mvEqual_c_neq (x y : Mv) (w : World) : (binOp .neq 168 (.agg (mvC x)) (.agg (mvC y))).run Tryd.prog w = .ok (.bool (!(decide (x = y)))) w := by
  obtain ⟨a0, a1, a2⟩ := x
  obtain ⟨b0, b1, b2⟩ := y
  have ht : Tryd.prog.underlying 168 = some (.struct (Tryd.prog.fieldsOf 168)) := by kernel_rfl
  have hp : Tryd.prog.stoodInHeld 168 = false := by kernel_rfl
  have f : ∀ a c : ByteArray, a = c ∨ (¬ a = c ∧ ¬ a.toList = c.toList) := fun a c => by
    by_cases h : a = c
    · exact .inl h
    · exact .inr ⟨h, fun e => h (eqB_iff.1 (by unfold eqB; rw [e]; simp))⟩
  rw [run_neq_struct, run_equalIn_agg w 9999 168 _ _ ht hp]
  simp [mvC, Tryd.underlying168, Tryd.underlying3, Tryd.underlying9, go_sem]
  rcases f a0 b0 with h0 | ⟨h0, g0⟩ <;>
    rcases f a1 b1 with h1 | ⟨h1, g1⟩ <;>
      by_cases h2 : a2 = b2 <;>
        simp [*]
def EqMvRel (l m : List Mv) (w : World) (i : Value) (wr : World) : Prop := ∃ k n : Nat, k ≤ l.length ∧ i = .int .i64 k ∧ l.take k = m.take k ∧ wr = w.drewN n
theorem take_succ_eqMv {l m : List Mv} {k : Nat} {x : Mv} (h : l.take k = m.take k) (hx : l[k]? = some x) (hy : m[k]? = some x) : l.take (k + 1) = m.take (k + 1) := by
  rw [List.take_add_one, List.take_add_one, h, hx, hy]
set_option maxRecDepth 100000 in
set_option maxHeartbeats 4000000 in
theorem mvEqual_c (v u : Value) (l m : List Mv) (w : World) (hr : RdR w 3 mvC v l) (hs : RdR w 3 mvC u m) (hn : l.length ≤ 1000000) :
    Calls Tryd.prog 104 #[v, u] w fun e w' => e = .returned (.bool (decide (l = m))) ∧ G w w' none := by
  have HR := Lib.hid hr
  have HS := Lib.hid hs
  obtain ⟨a, cap, rfl, hcap, hm1⟩ := RdR.form hr
  obtain ⟨a2, cap2, rfl, hcap2, hm2⟩ := RdR.form hs
  clear hr hs
  by_cases hlen : l.length = m.length
  · have hlq : ((l.length : Int) != (m.length : Int)) = false := by rw [hlen]; simp
    have hlq2 : ((m.length : Int) != (l.length : Int)) = false := by rw [hlen]; simp
    have HL := Lib.hid hlen
    clear hlen
    go_enter Tryd.func104, Tryd.ntmps104
    go_wp2_with fail
    go_loopw [13] (EqMvRel l m w) (fun i _ => l.length - (intOf i).toNat)
    case atStart => exact ⟨0, 0, by omega, rfl, rfl, rfl⟩
    case round =>
      obtain ⟨k, n, hk, rfl, heq, rfl⟩ := hrel
      have HE := Lib.hid heq
      clear heq
      by_cases hlt : k < l.length
      · obtain ⟨x, hx⟩ : ∃ x, l[k]? = some x := ⟨_, List.getElem?_eq_getElem hlt⟩
        obtain ⟨y, hy⟩ : ∃ y, m[k]? = some y := ⟨_, List.getElem?_eq_getElem (by rw [← HL.out]; exact hlt)⟩
        have hlt2 : k < m.length := by have := HL.out; omega
        obtain ⟨bb, bo, rfl, hbb, _⟩ := RdR.elem mvC_sz HR.out (G.refl w none) hx
        obtain ⟨b2, o2, rfl, hb2, _⟩ := RdR.elem mvC_sz HS.out (G.refl w none) hy
        have d0 := RdR.cell mvC_sz HR.out (G.refl w none) hx 0 (.string x.1) rfl
        have d1 := RdR.cell mvC_sz HR.out (G.refl w none) hx 1 (.string x.2.1) rfl
        have d2 := RdR.cell mvC_sz HR.out (G.refl w none) hx 2 (.int .i64 x.2.2) rfl
        have e0 := RdR.cell mvC_sz HS.out (G.refl w none) hy 0 (.string y.1) rfl
        have e1 := RdR.cell mvC_sz HS.out (G.refl w none) hy 1 (.string y.2.1) rfl
        have e2 := RdR.cell mvC_sz HS.out (G.refl w none) hy 2 (.int .i64 y.2.2) rfl
        simp only [Nat.add_zero] at d0 e0
        have HX := Lib.hid hx
        have HY := Lib.hid hy
        clear hx hy
        by_cases hxy : x = y
        · have hnq : ∀ w : World, (binOp .neq 168 (.agg #[.string x.1, .string x.2.1, .int .i64 x.2.2]) (.agg #[.string y.1, .string y.2.1, .int .i64 y.2.2])).run Tryd.prog w = .ok (.bool false) w := fun w => by
            have := mvEqual_c_neq x y w
            rw [decide_eq_true hxy] at this
            exact this
          have HT : Hid (l.take (k + 1) = m.take (k + 1)) := Lib.hid (take_succ_eqMv HE.out HX.out (by rw [hxy]; exact HY.out))
          clear hxy HX HY
          go_wp2_with fail
          go_quiet (fail)
          go_wp2_with fail
          go_roundw
          case rel => exact ⟨k + 1, _, by omega, by go_num, HT.out, rfl⟩
          case measure => simp [intOf]; omega
        · have hnq : ∀ w : World, (binOp .neq 168 (.agg #[.string x.1, .string x.2.1, .int .i64 x.2.2]) (.agg #[.string y.1, .string y.2.1, .int .i64 y.2.2])).run Tryd.prog w = .ok (.bool true) w := fun w => by
            have := mvEqual_c_neq x y w
            rw [decide_eq_false hxy] at this
            exact this
          have HT : Hid (decide (l = m) = false) := Lib.hid (decide_eq_false (fun e => hxy (by have h1 := HX.out; rw [e, HY.out] at h1; exact (Option.some.inj h1).symm)))
          clear hxy HX HY
          go_wp2_with fail
          go_quiet (fail)
          go_wp2_with fail
          go_ret
          exact ⟨ret_bool HT.out.symm, ((G.refl _ _).drewN _).drewN _⟩
      · obtain rfl : k = l.length := by omega
        have HT : Hid (decide (l = m) = true) := Lib.hid (decide_eq_true (by have h := HE.out; rwa [List.take_length, HL.out, List.take_length] at h))
        go_wp2_with fail
        go_ret
        exact ⟨ret_bool HT.out.symm, (G.refl _ _).drewN _⟩
  · have hlq : ((l.length : Int) != (m.length : Int)) = true := by rw [bne_iff_ne]; omega
    have hlq2 : ¬ l.length = m.length := hlen
    have HT : Hid (decide (l = m) = false) := Lib.hid (decide_eq_false (fun e => hlen (by rw [e])))
    clear hlen
    go_enter Tryd.func104, Tryd.ntmps104
    go_wp2_with fail
    go_ret
    exact ⟨ret_bool HT.out.symm, G.refl _ _⟩
end Go.Proofs.YtddedckehllkoaaDoor

/- rentlaw2's shifted. Written by gensdl.py. -/
namespace Go.Proofs.YtddedckehllkoaaDoor
open Go.RowKit

set_option maxRecDepth 100000 in
set_option maxHeartbeats 4000000 in
theorem shifted_c (w2 : World) : Calls Tryd.prog 66 #[] w2 fun e w' => e = .returned (.bool true) ∧ G w2 w' none := by
  go_enter Tryd.func66, Tryd.ntmps66
  go_wp2_with fail
  have hNe : RdR ((w2.alloc (.cells #[.string ⟨#[97]⟩, .int .i64 1, .string ⟨#[98]⟩, .int .i64 (-1)] 161)).alloc (.cells #[.string ⟨#[97]⟩, .string ⟨#[98]⟩, .int .i64 4, .int .i64 0] 164)) 2 neC (.slice (some ⟨w2.heap.size, 0, none⟩) 2 2) [(sA, 1), (sB, -1)] := ((Bk.new w2 161 #[.string ⟨#[97]⟩, .int .i64 1, .string ⟨#[98]⟩, .int .i64 (-1)]).alloc (.cells #[.string ⟨#[97]⟩, .string ⟨#[98]⟩, .int .i64 4, .int .i64 0] 164)).rd 2 2 rfl (by omega)
  have hRo : RdR ((w2.alloc (.cells #[.string ⟨#[97]⟩, .int .i64 1, .string ⟨#[98]⟩, .int .i64 (-1)] 161)).alloc (.cells #[.string ⟨#[97]⟩, .string ⟨#[98]⟩, .int .i64 4, .int .i64 0] 164)) 4 roC (.slice (some ⟨w2.heap.size + 1, 0, none⟩) 1 1) [(sA, sB, 4, 0)] := (Bk.newAt (w := w2.alloc (.cells #[.string ⟨#[97]⟩, .int .i64 1, .string ⟨#[98]⟩, .int .i64 (-1)] 161)) (b := w2.heap.size + 1) (by simp) 164 #[.string ⟨#[97]⟩, .string ⟨#[98]⟩, .int .i64 4, .int .i64 0]).rd 4 1 rfl (by omega)
  refine (plan_c _ _ _ hNe hRo).mono ?_; rintro e w3 ⟨v3, rfl, hR3, hh⟩
  have hG := (((G.refl w2 none).alloc (.cells #[.string ⟨#[97]⟩, .int .i64 1, .string ⟨#[98]⟩, .int .i64 (-1)] 161)).alloc (.cells #[.string ⟨#[97]⟩, .string ⟨#[98]⟩, .int .i64 4, .int .i64 0] 164)).trans hh
  clear hh hNe hRo
  obtain ⟨a3, c3, rfl, -, -⟩ := RdR.form hR3
  have hM : RdR (w3.alloc (.cells #[.string ⟨#[97]⟩, .string ⟨#[98]⟩, .int .i64 1] 168)) 3 mvC (.slice (some ⟨w3.heap.size, 0, none⟩) 1 1) [(sA, sB, 1)] := (Bk.new w3 168 #[.string ⟨#[97]⟩, .string ⟨#[98]⟩, .int .i64 1]).rd 3 1 rfl (by omega)
  have hR4 := hR3.quiet ((G.refl w3 none).alloc (.cells #[.string ⟨#[97]⟩, .string ⟨#[98]⟩, .int .i64 1] 168))
  replace hG := hG.alloc (.cells #[.string ⟨#[97]⟩, .string ⟨#[98]⟩, .int .i64 1] 168)
  clear hR3
  go_wp2_with fail
  refine (mvEqual_c _ _ [(sA, sB, 1)] [(sA, sB, 1)] _ hR4 hM (by simp)).mono ?_; rintro e w5 ⟨rfl, hh⟩
  rw [show decide (([(sA, sB, 1)] : List Mv) = [(sA, sB, 1)]) = true by simp]
  replace hG := hG.trans hh
  go_wp2_with fail
  go_ret
  exact ⟨rfl, hG⟩
end Go.Proofs.YtddedckehllkoaaDoor

/- Services: what is due and by when (mathematics; no program). -/
namespace Go.Proofs.YtddedckehllkoaaDoor
open Go.RowKit

/-- An interval: kind, kilometres, days. -/
abbrev Iv := ByteArray × Int × Int
def ivC (x : Iv) : Array Value := #[.string x.1, .int .i64 x.2.1, .int .i64 x.2.2]
theorem ivC_sz (x : Iv) : (ivC x).size = 3 := rfl
/-- A service that was done: vehicle, kind, day, meter. -/
abbrev Dn := ByteArray × ByteArray × Int × Int
def dnC (x : Dn) : Array Value := #[.string x.1, .string x.2.1, .int .i64 x.2.2.1, .int .i64 x.2.2.2]
theorem dnC_sz (x : Dn) : (dnC x).size = 4 := rfl
/-- What is due: kind, day, kilometres. -/
abbrev Du := ByteArray × Int × Int
def duC (x : Du) : Array Value := #[.string x.1, .int .i64 x.2.1, .int .i64 x.2.2]
theorem duC_sz (x : Du) : (duC x).size = 3 := rfl
/-- The last service of a kind that a vehicle had. -/
def lsO (v k : ByteArray) : List Dn → Option Dn
  | [] => none
  | s :: r => match lsO v k r with | some u => some u | none => if s.1 = v ∧ s.2.1 = k then some s else none
theorem lsO_snoc (v k : ByteArray) (l : List Dn) (s : Dn) : lsO v k (l ++ [s]) = if s.1 = v ∧ s.2.1 = k then some s else lsO v k l := by
  induction l with
  | nil => simp [lsO]
  | cons a r ih =>
    show (match lsO v k (r ++ [s]) with | some u => some u | none => if a.1 = v ∧ a.2.1 = k then some a else none) = _
    rw [ih]
    by_cases h : s.1 = v ∧ s.2.1 = k
    · rw [if_pos h, if_pos h]
    · rw [if_neg h, if_neg h]; rfl
theorem lsO_mem {v k : ByteArray} {l : List Dn} {u : Dn} (h : lsO v k l = some u) : u ∈ l := by
  induction l with
  | nil => cases h
  | cons a r ih =>
    unfold lsO at h
    cases hr : lsO v k r with
    | some x => rw [hr] at h; cases h; exact List.mem_cons_of_mem _ (ih hr)
    | none =>
      rw [hr] at h
      dsimp only at h
      split at h
      · cases h; exact List.mem_cons_self
      · cases h
/-- The map of the last services, as a function. -/
def lsF (v : ByteArray) (l : List Dn) : Fn := fun t => (lsO v t l).map (fun u => .agg (dnC u))
theorem lsF_hit {v : ByteArray} {l : List Dn} {s : Dn} (h : s.1 = v) : lsF v (l ++ [s]) = fput (lsF v l) s.2.1 (.agg (dnC s)) := by
  funext t
  unfold lsF fput
  rw [lsO_snoc]
  by_cases e : t = s.2.1
  · rw [if_pos ⟨h, e.symm⟩, if_pos e]; rfl
  · rw [if_neg (fun q => e q.2.symm), if_neg e]
theorem lsF_miss {v : ByteArray} {l : List Dn} {s : Dn} (h : ¬ s.1 = v) : lsF v (l ++ [s]) = lsF v l := by
  funext t
  unfold lsF
  rw [lsO_snoc, if_neg (fun q => h q.1)]
/-- What is due for an interval. -/
def dueL (x : Iv) (s : Dn) (m : Int) : Du := (x.1, (if x.2.2 = 0 then 1000000 else s.2.2.1 + x.2.2), (if x.2.1 = 0 then 1000000000 else s.2.2.2 + x.2.1 - m))
def duesL (l : List Iv) (d : List Dn) (f : Dn) (m : Int) : List Du := l.map fun x => dueL x ((lsO f.1 x.1 d).getD f) m
/-- The day on which a service is due. -/
def dayL (t y : Int) (x : Du) : Int := if x.2.2 = 1000000000 then x.2.1 else if x.2.2 < 0 then min x.2.1 t else if y = 0 then x.2.1 else min x.2.1 (t + x.2.2 / y)
/-- The first of the least ones. -/
def bsL (t y : Int) (p : ByteArray × Int) (l : List Du) : ByteArray × Int := l.foldl (fun p x => if dayL t y x < p.2 then (x.1, dayL t y x) else p) p
theorem bsL_snoc (t y : Int) (p : ByteArray × Int) (l : List Du) (x : Du) : bsL t y p (l ++ [x]) = if dayL t y x < (bsL t y p l).2 then (x.1, dayL t y x) else bsL t y p l := by
  unfold bsL
  rw [List.foldl_append]
  rfl
end Go.Proofs.YtddedckehllkoaaDoor

/- slices.Equal of dues. Written by geneq.py. -/
namespace Go.Proofs.YtddedckehllkoaaDoor
open Go.RowKit

theorem duEqual_c_neq (x y : Du) (w : World) : (binOp .neq 98 (.agg (duC x)) (.agg (duC y))).run Tryd.prog w = .ok (.bool (!(decide (x = y)))) w := by
  obtain ⟨a0, a1, a2⟩ := x
  obtain ⟨b0, b1, b2⟩ := y
  have ht : Tryd.prog.underlying 98 = some (.struct (Tryd.prog.fieldsOf 98)) := by kernel_rfl
  have hp : Tryd.prog.stoodInHeld 98 = false := by kernel_rfl
  have f : ∀ a c : ByteArray, a = c ∨ (¬ a = c ∧ ¬ a.toList = c.toList) := fun a c => by
    by_cases h : a = c
    · exact .inl h
    · exact .inr ⟨h, fun e => h (eqB_iff.1 (by unfold eqB; rw [e]; simp))⟩
  rw [run_neq_struct, run_equalIn_agg w 9999 98 _ _ ht hp]
  simp [duC, Tryd.underlying98, Tryd.underlying3, Tryd.underlying9, go_sem]
  rcases f a0 b0 with h0 | ⟨h0, g0⟩ <;>
    by_cases h1 : a1 = b1 <;>
      by_cases h2 : a2 = b2 <;>
        simp [*]
def EqDuRel (l m : List Du) (w : World) (i : Value) (wr : World) : Prop := ∃ k n : Nat, k ≤ l.length ∧ i = .int .i64 k ∧ l.take k = m.take k ∧ wr = w.drewN n
theorem take_succ_eqDu {l m : List Du} {k : Nat} {x : Du} (h : l.take k = m.take k) (hx : l[k]? = some x) (hy : m[k]? = some x) : l.take (k + 1) = m.take (k + 1) := by
  rw [List.take_add_one, List.take_add_one, h, hx, hy]
set_option maxRecDepth 100000 in
set_option maxHeartbeats 4000000 in
theorem duEqual_c (v u : Value) (l m : List Du) (w : World) (hr : RdR w 3 duC v l) (hs : RdR w 3 duC u m) (hn : l.length ≤ 1000000) :
    Calls Tryd.prog 61 #[v, u] w fun e w' => e = .returned (.bool (decide (l = m))) ∧ G w w' none := by
  have HR := Lib.hid hr
  have HS := Lib.hid hs
  obtain ⟨a, cap, rfl, hcap, hm1⟩ := RdR.form hr
  obtain ⟨a2, cap2, rfl, hcap2, hm2⟩ := RdR.form hs
  clear hr hs
  by_cases hlen : l.length = m.length
  · have hlq : ((l.length : Int) != (m.length : Int)) = false := by rw [hlen]; simp
    have hlq2 : ((m.length : Int) != (l.length : Int)) = false := by rw [hlen]; simp
    have HL := Lib.hid hlen
    clear hlen
    go_enter Tryd.func61, Tryd.ntmps61
    go_wp2_with fail
    go_loopw [13] (EqDuRel l m w) (fun i _ => l.length - (intOf i).toNat)
    case atStart => exact ⟨0, 0, by omega, rfl, rfl, rfl⟩
    case round =>
      obtain ⟨k, n, hk, rfl, heq, rfl⟩ := hrel
      have HE := Lib.hid heq
      clear heq
      by_cases hlt : k < l.length
      · obtain ⟨x, hx⟩ : ∃ x, l[k]? = some x := ⟨_, List.getElem?_eq_getElem hlt⟩
        obtain ⟨y, hy⟩ : ∃ y, m[k]? = some y := ⟨_, List.getElem?_eq_getElem (by rw [← HL.out]; exact hlt)⟩
        have hlt2 : k < m.length := by have := HL.out; omega
        obtain ⟨bb, bo, rfl, hbb, _⟩ := RdR.elem duC_sz HR.out (G.refl w none) hx
        obtain ⟨b2, o2, rfl, hb2, _⟩ := RdR.elem duC_sz HS.out (G.refl w none) hy
        have d0 := RdR.cell duC_sz HR.out (G.refl w none) hx 0 (.string x.1) rfl
        have d1 := RdR.cell duC_sz HR.out (G.refl w none) hx 1 (.int .i64 x.2.1) rfl
        have d2 := RdR.cell duC_sz HR.out (G.refl w none) hx 2 (.int .i64 x.2.2) rfl
        have e0 := RdR.cell duC_sz HS.out (G.refl w none) hy 0 (.string y.1) rfl
        have e1 := RdR.cell duC_sz HS.out (G.refl w none) hy 1 (.int .i64 y.2.1) rfl
        have e2 := RdR.cell duC_sz HS.out (G.refl w none) hy 2 (.int .i64 y.2.2) rfl
        simp only [Nat.add_zero] at d0 e0
        have HX := Lib.hid hx
        have HY := Lib.hid hy
        clear hx hy
        by_cases hxy : x = y
        · have hnq : ∀ w : World, (binOp .neq 98 (.agg #[.string x.1, .int .i64 x.2.1, .int .i64 x.2.2]) (.agg #[.string y.1, .int .i64 y.2.1, .int .i64 y.2.2])).run Tryd.prog w = .ok (.bool false) w := fun w => by
            have := duEqual_c_neq x y w
            rw [decide_eq_true hxy] at this
            exact this
          have HT : Hid (l.take (k + 1) = m.take (k + 1)) := Lib.hid (take_succ_eqDu HE.out HX.out (by rw [hxy]; exact HY.out))
          clear hxy HX HY
          go_wp2_with fail
          go_quiet (fail)
          go_wp2_with fail
          go_roundw
          case rel => exact ⟨k + 1, _, by omega, by go_num, HT.out, rfl⟩
          case measure => simp [intOf]; omega
        · have hnq : ∀ w : World, (binOp .neq 98 (.agg #[.string x.1, .int .i64 x.2.1, .int .i64 x.2.2]) (.agg #[.string y.1, .int .i64 y.2.1, .int .i64 y.2.2])).run Tryd.prog w = .ok (.bool true) w := fun w => by
            have := duEqual_c_neq x y w
            rw [decide_eq_false hxy] at this
            exact this
          have HT : Hid (decide (l = m) = false) := Lib.hid (decide_eq_false (fun e => hxy (by have h1 := HX.out; rw [e, HY.out] at h1; exact (Option.some.inj h1).symm)))
          clear hxy HX HY
          go_wp2_with fail
          go_quiet (fail)
          go_wp2_with fail
          go_ret
          exact ⟨ret_bool HT.out.symm, ((G.refl _ _).drewN _).drewN _⟩
      · obtain rfl : k = l.length := by omega
        have HT : Hid (decide (l = m) = true) := Lib.hid (decide_eq_true (by have h := HE.out; rwa [List.take_length, HL.out, List.take_length] at h))
        go_wp2_with fail
        go_ret
        exact ⟨ret_bool HT.out.symm, (G.refl _ _).drewN _⟩
  · have hlq : ((l.length : Int) != (m.length : Int)) = true := by rw [bne_iff_ne]; omega
    have hlq2 : ¬ l.length = m.length := hlen
    have HT : Hid (decide (l = m) = false) := Lib.hid (decide_eq_false (fun e => hlen (by rw [e])))
    clear hlen
    go_enter Tryd.func61, Tryd.ntmps61
    go_wp2_with fail
    go_ret
    exact ⟨ret_bool HT.out.symm, G.refl _ _⟩
end Go.Proofs.YtddedckehllkoaaDoor

/- rentref2.in. -/
namespace Go.Proofs.YtddedckehllkoaaDoor
open Go.RowKit

theorem inn_c (a lo hi : Int) (w : World) : Calls Tryd.prog 99 #[.int .i64 a, .int .i64 lo, .int .i64 hi] w fun e w' => e = .returned (.bool (inB a lo hi)) ∧ w = w' := by
  by_cases h1 : lo ≤ a
  · by_cases h2 : a ≤ hi
    · have HF : Hid (inB a lo hi = true) := Lib.hid (by simp [inB, h1, h2])
      go_enter Tryd.func99, Tryd.ntmps99
      go_wp2_with fail
      go_ret
      exact ⟨by rw [HF.out]; rfl, rfl⟩
    · have HF : Hid (inB a lo hi = false) := Lib.hid (by simp [inB, h2])
      go_enter Tryd.func99, Tryd.ntmps99
      go_wp2_with fail
      go_ret
      exact ⟨by rw [HF.out]; rfl, rfl⟩
  · have HF : Hid (inB a lo hi = false) := Lib.hid (by simp [inB, h1])
    go_enter Tryd.func99, Tryd.ntmps99
    go_wp2_with fail
    go_ret
    exact ⟨by rw [HF.out]; rfl, rfl⟩
end Go.Proofs.YtddedckehllkoaaDoor

/- Services: intervals and services done, their checks. Written by gensrv.py. -/
namespace Go.Proofs.YtddedckehllkoaaDoor
open Go.RowKit

theorem iv_info (x : Iv) : (Tryd.prog.info? 149).map (·.size) = some (ivC x).size := (by kernel_rfl : (Tryd.prog.info? 149).map (·.size) = some 3)
def IvOk (l : List Iv) : Prop := ∀ x ∈ l, Small x.1
def ivErr (b : ByteArray) : List Iv → Int
  | [] => 0
  | x :: r => if keyB x.1 = false then 5 else if leB x.1 b = true then 7 else if inB x.2.1 0 1000000 = false then 1 else if inB x.2.2 0 100000 = false then 1 else if x.2.1 = 0 ∧ x.2.2 = 0 then 3 else ivErr x.1 r
def ivE (l : List Iv) : Int := if 500 < l.length then 2 else ivErr ⟨#[]⟩ l
theorem ivRow {W w : World} {bb bo n cap : Nat} {l : List Iv} (h : RdR W 3 ivC (.slice (some ⟨bb, bo, none⟩) n cap) l) (hG : G W w none) {k : Nat} {p : Iv} (hp : l[k]? = some p) :
    ∀ j v, (ivC p).toList[j]? = some v → w.cell? ((⟨bb, bo + k * 3, none⟩ : Addr).add j) = some v := fun j v hv => by
  rw [add_at]
  exact RdR.cell ivC_sz h hG hp j v hv
def IvRel (w : World) (l : List Iv) (v i : Value) (wr : World) : Prop :=
  ∃ (k : Nat) (b : ByteArray), k ≤ l.length ∧ i = .int .i64 k ∧ v = .string b ∧ ivErr ⟨#[]⟩ l = ivErr b (l.drop k) ∧ G w wr none
theorem dn_info (x : Dn) : (Tryd.prog.info? 90).map (·.size) = some (dnC x).size := (by kernel_rfl : (Tryd.prog.info? 90).map (·.size) = some 4)
def DnOk (l : List Dn) : Prop := ∀ x ∈ l, Small x.1 ∧ Small x.2.1
def dnErr (b : Int) : List Dn → Int
  | [] => 0
  | x :: r => if keyB x.1 = false then 5 else if keyB x.2.1 = false then 5 else if inB x.2.2.1 0 4000 = false then 1 else if inB x.2.2.2 0 10000000 = false then 1 else if x.2.2.1 < b then 7 else dnErr x.2.2.1 r
def dnE (l : List Dn) : Int := if 500 < l.length then 2 else dnErr 0 l
def dnB (l : List Dn) : Nat → Int
  | 0 => 0
  | m + 1 => match l[m]? with | some x => x.2.2.1 | none => 0
theorem dnRow {W w : World} {bb bo n cap : Nat} {l : List Dn} (h : RdR W 4 dnC (.slice (some ⟨bb, bo, none⟩) n cap) l) (hG : G W w none) {k : Nat} {p : Dn} (hp : l[k]? = some p) :
    ∀ j v, (dnC p).toList[j]? = some v → w.cell? ((⟨bb, bo + k * 4, none⟩ : Addr).add j) = some v := fun j v hv => by
  rw [add_at]
  exact RdR.cell dnC_sz h hG hp j v hv
def DnRel (w : World) (l : List Dn) (v i : Value) (wr : World) : Prop :=
  ∃ (k : Nat) (b : Int), k ≤ l.length ∧ i = .int .i64 k ∧ v = .int .i64 b ∧ dnErr 0 l = dnErr b (l.drop k) ∧ G w wr none
def DnfRel (w : World) (l : List Dn) (i : Value) (wr : World) : Prop :=
  ∃ k : Nat, k ≤ l.length ∧ i = .int .i64 k ∧ dnErr 0 l = dnErr (dnB l k) (l.drop k) ∧ G w wr none
theorem svDay_c (n : Int) (w : World) : Calls Tryd.prog 100 #[.int .i64 n] w fun e w' => e = .returned (.bool (inB n 0 4000)) ∧ w = w' := by
  go_enter Tryd.func100, Tryd.ntmps100
  go_wp2_with fail
  refine (within_c n 0 4000 _).mono ?_; rintro e w' ⟨rfl, rfl⟩
  go_wp2_with fail
  go_ret
  exact ⟨rfl, rfl⟩
theorem svMeter_c (n : Int) (w : World) : Calls Tryd.prog 97 #[.int .i64 n] w fun e w' => e = .returned (.bool (inB n 0 10000000)) ∧ w = w' := by
  go_enter Tryd.func97, Tryd.ntmps97
  go_wp2_with fail
  refine (within_c n 0 10000000 _).mono ?_; rintro e w' ⟨rfl, rfl⟩
  go_wp2_with fail
  go_ret
  exact ⟨rfl, rfl⟩
set_option maxRecDepth 100000 in
set_option maxHeartbeats 4000000 in
theorem checkIntervals_c (v : Value) (l : List Iv) (w : World) (hr : RdR w 3 ivC v l) (hl : IvOk l) (hn : l.length ≤ 1000000) :
    Calls Tryd.prog 57 #[v] w fun e w' => e = .returned (.int .i64 (ivE l)) ∧ G w w' none := by
  have HR := Lib.hid hr
  obtain ⟨a, cap, rfl, hcap, hm⟩ := RdR.form hr
  clear hr
  obtain ⟨E, hE⟩ : ∃ E, ivE l = E := ⟨_, rfl⟩
  have HEE := Lib.hid hE
  rw [hE]
  clear hE
  by_cases h30 : 500 < l.length
  · obtain rfl : E = 2 := by rw [← HEE.out]; simp [ivE, h30]
    go_enter Tryd.func57, Tryd.ntmps57
    go_wp2_with fail
    go_ret
    exact ⟨rfl, G.refl _ _⟩
  · have H := Lib.hid (show E = ivErr ⟨#[]⟩ l by rw [← HEE.out]; simp [ivE, h30])
    go_enter Tryd.func57, Tryd.ntmps57
    go_wp2_with fail
    go_loopw [3, 11] (IvRel w l) (fun _ i _ => l.length - (intOf i).toNat)
    case atStart => exact ⟨0, ⟨#[]⟩, by omega, rfl, rfl, rfl, G.refl _ _⟩
    case round =>
      obtain ⟨k, b, hkl, rfl, rfl, heq, hG⟩ := hrel
      have HE := Lib.hid heq
      clear heq
      by_cases hk : k < l.length
      · obtain ⟨⟨h, m, d⟩, hp⟩ : ∃ p, l[k]? = some p := ⟨_, List.getElem?_eq_getElem hk⟩
        have hdrop : l.drop k = (h, m, d) :: l.drop (k + 1) := by rw [List.drop_eq_getElem_cons hk, ← (List.getElem?_eq_some_iff.1 hp).2]
        have hs1 := hl _ (List.mem_of_getElem? hp)
        dsimp only at hs1
        unfold Small at hs1
        obtain ⟨bb, bo, rfl, hbb, _⟩ := RdR.elem ivC_sz HR.out hG hp
        have HW := Lib.hid (ivRow HR.out hG hp)
        have HP := Lib.hid hp
        have HK := Lib.hid hk
        have HS : Hid (ivErr b (l.drop k) = if keyB h = false then 5 else if leB h b = true then 7 else if inB m 0 1000000 = false then 1 else if inB d 0 100000 = false then 1 else if m = 0 ∧ d = 0 then 3 else ivErr h (l.drop (k + 1))) := Lib.hid (by rw [hdrop]; rfl)
        have hB5 : Bk (wr.alloc (.cells #[.string h, .int .i64 m, .int .i64 d] 149)) wr.heap.size 149 #[.string h, .int .i64 m, .int .i64 d] := Bk.new wr 149 _
        have hG5 : G w (wr.alloc (.cells #[.string h, .int .i64 m, .int .i64 d] 149)) none := hG.alloc (.cells (ivC (h, m, d)) 149)
        clear hdrop hp hG
        go_upto_region 7 with (refine wpList_load_at rfl 149 _ rfl ⟨bb, bo + k * 3, none⟩ rfl #[.string h, .int .i64 m, .int .i64 d] _ HW.out Tryd.underlying149 rfl (iv_info (h, m, d)) ?_)
        clear HW
        generalize wr.alloc (.cells #[.string h, .int .i64 m, .int .i64 d] 149) = w5 at hB5 hG5 ⊢
        generalize wr.heap.size = g at hB5 ⊢
        have c0 : w5.cell? ⟨g, 0, none⟩ = some (.string h) := hB5.cell 0
        have c1 : w5.cell? ⟨g, 1, none⟩ = some (.int .i64 m) := hB5.cell 1
        have c2 : w5.cell? ⟨g, 2, none⟩ = some (.int .i64 d) := hB5.cell 2
        go_wp2_with fail
        refine (isKey_c _ _ hs1).mono ?_; rintro e w' ⟨rfl, rfl⟩
        cases k0 : keyB h with
        | false =>
          obtain rfl : E = 5 := by rw [H.out, HE.out, HS.out, if_pos k0]
          clear k0
          go_wp2_with fail
          go_ret
          exact ⟨rfl, hG5⟩
        | true =>
          have K0 := Lib.hid k0
          clear k0
          cases hle : leB h b with
          | true =>
            obtain rfl : E = 7 := by rw [H.out, HE.out, HS.out, if_neg (by simp [K0.out]), if_pos hle]
            unfold leB at hle
            go_wp2_with fail
            go_ret
            exact ⟨rfl, hG5⟩
          | false =>
            have HL := Lib.hid hle
            unfold leB at hle
            go_wp2_with fail
            refine (within_c m 0 1000000 _).mono ?_; rintro e w' ⟨rfl, rfl⟩
            cases k1 : inB m 0 1000000 with
            | false =>
              obtain rfl : E = 1 := by rw [H.out, HE.out, HS.out, if_neg (by simp [K0.out]), if_neg (by simp [HL.out]), if_pos k1]
              clear k1
              go_wp2_with fail
              go_ret
              exact ⟨rfl, hG5⟩
            | true =>
              have K1 := Lib.hid k1
              clear k1
              go_wp2_with fail
              refine (within_c d 0 100000 _).mono ?_; rintro e w' ⟨rfl, rfl⟩
              cases k2 : inB d 0 100000 with
              | false =>
                obtain rfl : E = 1 := by rw [H.out, HE.out, HS.out, if_neg (by simp [K0.out]), if_neg (by simp [HL.out]), if_neg (by simp [K1.out]), if_pos k2]
                clear k2
                go_wp2_with fail
                go_ret
                exact ⟨rfl, hG5⟩
              | true =>
                have K2 := Lib.hid k2
                clear k2
                by_cases m0 : m = 0
                · by_cases d0 : d = 0
                  · obtain rfl : E = 3 := by rw [H.out, HE.out, HS.out, if_neg (by simp [K0.out]), if_neg (by simp [HL.out]), if_neg (by simp [K1.out]), if_neg (by simp [K2.out]), if_pos ⟨m0, d0⟩]
                    subst m0 d0
                    go_wp2_with fail
                    go_ret
                    exact ⟨rfl, hG5⟩
                  · have HF : Hid (ivErr ⟨#[]⟩ l = ivErr h (l.drop (k + 1))) := Lib.hid (by rw [HE.out, HS.out, if_neg (by simp [K0.out]), if_neg (by simp [HL.out]), if_neg (by simp [K1.out]), if_neg (by simp [K2.out]), if_neg (fun q => d0 q.2)])
                    have d1 : (d == 0) = false := beq_eq_false_iff_ne.2 d0
                    subst m0
                    go_wp2_with fail
                    go_roundw
                    case rel => exact ⟨k + 1, h, (by have := HK.out; omega), by go_num, rfl, HF.out, hG5⟩
                    case measure => have := HK.out; simp [intOf]; omega
                · have HF : Hid (ivErr ⟨#[]⟩ l = ivErr h (l.drop (k + 1))) := Lib.hid (by rw [HE.out, HS.out, if_neg (by simp [K0.out]), if_neg (by simp [HL.out]), if_neg (by simp [K1.out]), if_neg (by simp [K2.out]), if_neg (fun q => m0 q.1)])
                  have m1 : (m == 0) = false := beq_eq_false_iff_ne.2 m0
                  go_wp2_with fail
                  go_roundw
                  case rel => exact ⟨k + 1, h, (by have := HK.out; omega), by go_num, rfl, HF.out, hG5⟩
                  case measure => have := HK.out; simp [intOf]; omega
      · obtain rfl : k = l.length := by omega
        obtain rfl : E = 0 := by rw [H.out, HE.out, List.drop_length]; rfl
        go_wp2_with fail
        go_ret
        exact ⟨rfl, hG⟩
set_option maxRecDepth 100000 in
set_option maxHeartbeats 4000000 in
theorem intervalsFault_c (v : Value) (l : List Iv) (w : World) (hr : RdR w 3 ivC v l) (hl : IvOk l) (hn : l.length ≤ 1000000) :
    Calls Tryd.prog 55 #[v] w fun e w' => e = .returned (.int .i64 (ivE l)) ∧ G w w' none := by
  have HR := Lib.hid hr
  obtain ⟨a, cap, rfl, hcap, hm⟩ := RdR.form hr
  clear hr
  obtain ⟨E, hE⟩ : ∃ E, ivE l = E := ⟨_, rfl⟩
  have HEE := Lib.hid hE
  rw [hE]
  clear hE
  by_cases h30 : 500 < l.length
  · obtain rfl : E = 2 := by rw [← HEE.out]; simp [ivE, h30]
    go_enter Tryd.func55, Tryd.ntmps55
    go_wp2_with fail
    go_ret
    exact ⟨rfl, G.refl _ _⟩
  · have H := Lib.hid (show E = ivErr ⟨#[]⟩ l by rw [← HEE.out]; simp [ivE, h30])
    go_enter Tryd.func55, Tryd.ntmps55
    go_wp2_with fail
    go_loopw [3, 11] (IvRel w l) (fun _ i _ => l.length - (intOf i).toNat)
    case atStart => exact ⟨0, ⟨#[]⟩, by omega, rfl, rfl, rfl, G.refl _ _⟩
    case round =>
      obtain ⟨k, b, hkl, rfl, rfl, heq, hG⟩ := hrel
      have HE := Lib.hid heq
      clear heq
      by_cases hk : k < l.length
      · obtain ⟨⟨h, m, d⟩, hp⟩ : ∃ p, l[k]? = some p := ⟨_, List.getElem?_eq_getElem hk⟩
        have hdrop : l.drop k = (h, m, d) :: l.drop (k + 1) := by rw [List.drop_eq_getElem_cons hk, ← (List.getElem?_eq_some_iff.1 hp).2]
        have hs1 := hl _ (List.mem_of_getElem? hp)
        dsimp only at hs1
        unfold Small at hs1
        obtain ⟨bb, bo, rfl, hbb, _⟩ := RdR.elem ivC_sz HR.out hG hp
        have HW := Lib.hid (ivRow HR.out hG hp)
        have HP := Lib.hid hp
        have HK := Lib.hid hk
        have HS : Hid (ivErr b (l.drop k) = if keyB h = false then 5 else if leB h b = true then 7 else if inB m 0 1000000 = false then 1 else if inB d 0 100000 = false then 1 else if m = 0 ∧ d = 0 then 3 else ivErr h (l.drop (k + 1))) := Lib.hid (by rw [hdrop]; rfl)
        have hB5 : Bk (wr.alloc (.cells #[.string h, .int .i64 m, .int .i64 d] 149)) wr.heap.size 149 #[.string h, .int .i64 m, .int .i64 d] := Bk.new wr 149 _
        have hG5 : G w (wr.alloc (.cells #[.string h, .int .i64 m, .int .i64 d] 149)) none := hG.alloc (.cells (ivC (h, m, d)) 149)
        clear hdrop hp hG
        go_upto_region 7 with (refine wpList_load_at rfl 149 _ rfl ⟨bb, bo + k * 3, none⟩ rfl #[.string h, .int .i64 m, .int .i64 d] _ HW.out Tryd.underlying149 rfl (iv_info (h, m, d)) ?_)
        clear HW
        generalize wr.alloc (.cells #[.string h, .int .i64 m, .int .i64 d] 149) = w5 at hB5 hG5 ⊢
        generalize wr.heap.size = g at hB5 ⊢
        have c0 : w5.cell? ⟨g, 0, none⟩ = some (.string h) := hB5.cell 0
        have c1 : w5.cell? ⟨g, 1, none⟩ = some (.int .i64 m) := hB5.cell 1
        have c2 : w5.cell? ⟨g, 2, none⟩ = some (.int .i64 d) := hB5.cell 2
        go_wp2_with fail
        refine (rkey_c _ _ hs1).mono ?_; rintro e w6 ⟨rfl, hGk⟩
        have hB6 := hB5.quiet hGk
        have hG6 := hG5.trans hGk
        clear hGk c0 c1 c2 hB5 hG5
        have c0 : w6.cell? ⟨g, 0, none⟩ = some (.string h) := hB6.cell 0
        have c1 : w6.cell? ⟨g, 1, none⟩ = some (.int .i64 m) := hB6.cell 1
        have c2 : w6.cell? ⟨g, 2, none⟩ = some (.int .i64 d) := hB6.cell 2
        cases k0 : keyB h with
        | false =>
          obtain rfl : E = 5 := by rw [H.out, HE.out, HS.out, if_pos k0]
          clear k0
          go_wp2_with fail
          go_ret
          exact ⟨rfl, hG6⟩
        | true =>
          have K0 := Lib.hid k0
          clear k0
          cases hle : leB h b with
          | true =>
            obtain rfl : E = 7 := by rw [H.out, HE.out, HS.out, if_neg (by simp [K0.out]), if_pos hle]
            unfold leB at hle
            go_wp2_with fail
            go_ret
            exact ⟨rfl, hG6⟩
          | false =>
            have HL := Lib.hid hle
            unfold leB at hle
            go_wp2_with fail
            refine (inn_c m 0 1000000 _).mono ?_; rintro e w' ⟨rfl, rfl⟩
            cases k1 : inB m 0 1000000 with
            | false =>
              obtain rfl : E = 1 := by rw [H.out, HE.out, HS.out, if_neg (by simp [K0.out]), if_neg (by simp [HL.out]), if_pos k1]
              clear k1
              go_wp2_with fail
              go_ret
              exact ⟨rfl, hG6⟩
            | true =>
              have K1 := Lib.hid k1
              clear k1
              go_wp2_with fail
              refine (inn_c d 0 100000 _).mono ?_; rintro e w' ⟨rfl, rfl⟩
              cases k2 : inB d 0 100000 with
              | false =>
                obtain rfl : E = 1 := by rw [H.out, HE.out, HS.out, if_neg (by simp [K0.out]), if_neg (by simp [HL.out]), if_neg (by simp [K1.out]), if_pos k2]
                clear k2
                go_wp2_with fail
                go_ret
                exact ⟨rfl, hG6⟩
              | true =>
                have K2 := Lib.hid k2
                clear k2
                by_cases m0 : m = 0
                · by_cases d0 : d = 0
                  · obtain rfl : E = 3 := by rw [H.out, HE.out, HS.out, if_neg (by simp [K0.out]), if_neg (by simp [HL.out]), if_neg (by simp [K1.out]), if_neg (by simp [K2.out]), if_pos ⟨m0, d0⟩]
                    subst m0 d0
                    go_wp2_with fail
                    go_ret
                    exact ⟨rfl, hG6⟩
                  · have HF : Hid (ivErr ⟨#[]⟩ l = ivErr h (l.drop (k + 1))) := Lib.hid (by rw [HE.out, HS.out, if_neg (by simp [K0.out]), if_neg (by simp [HL.out]), if_neg (by simp [K1.out]), if_neg (by simp [K2.out]), if_neg (fun q => d0 q.2)])
                    have d1 : (d == 0) = false := beq_eq_false_iff_ne.2 d0
                    subst m0
                    go_wp2_with fail
                    go_roundw
                    case rel => exact ⟨k + 1, h, (by have := HK.out; omega), by go_num, rfl, HF.out, hG6⟩
                    case measure => have := HK.out; simp [intOf]; omega
                · have HF : Hid (ivErr ⟨#[]⟩ l = ivErr h (l.drop (k + 1))) := Lib.hid (by rw [HE.out, HS.out, if_neg (by simp [K0.out]), if_neg (by simp [HL.out]), if_neg (by simp [K1.out]), if_neg (by simp [K2.out]), if_neg (fun q => m0 q.1)])
                  have m1 : (m == 0) = false := beq_eq_false_iff_ne.2 m0
                  go_wp2_with fail
                  go_roundw
                  case rel => exact ⟨k + 1, h, (by have := HK.out; omega), by go_num, rfl, HF.out, hG6⟩
                  case measure => have := HK.out; simp [intOf]; omega
      · obtain rfl : k = l.length := by omega
        obtain rfl : E = 0 := by rw [H.out, HE.out, List.drop_length]; rfl
        go_wp2_with fail
        go_ret
        exact ⟨rfl, hG⟩
set_option maxRecDepth 100000 in
set_option maxHeartbeats 4000000 in
theorem checkServices_c (v : Value) (l : List Dn) (w : World) (hr : RdR w 4 dnC v l) (hl : DnOk l) (hn : l.length ≤ 1000000) :
    Calls Tryd.prog 58 #[v] w fun e w' => e = .returned (.int .i64 (dnE l)) ∧ G w w' none := by
  have HR := Lib.hid hr
  obtain ⟨a, cap, rfl, hcap, hm⟩ := RdR.form hr
  clear hr
  obtain ⟨E, hE⟩ : ∃ E, dnE l = E := ⟨_, rfl⟩
  have HEE := Lib.hid hE
  rw [hE]
  clear hE
  by_cases h30 : 500 < l.length
  · obtain rfl : E = 2 := by rw [← HEE.out]; simp [dnE, h30]
    go_enter Tryd.func58, Tryd.ntmps58
    go_wp2_with fail
    go_ret
    exact ⟨rfl, G.refl _ _⟩
  · have H := Lib.hid (show E = dnErr 0 l by rw [← HEE.out]; simp [dnE, h30])
    go_enter Tryd.func58, Tryd.ntmps58
    go_wp2_with fail
    go_loopw [3, 11] (DnRel w l) (fun _ i _ => l.length - (intOf i).toNat)
    case atStart => exact ⟨0, 0, by omega, rfl, rfl, rfl, G.refl _ _⟩
    case round =>
      obtain ⟨k, b, hkl, rfl, rfl, heq, hG⟩ := hrel
      have HE := Lib.hid heq
      clear heq
      by_cases hk : k < l.length
      · obtain ⟨⟨h, y, d, m⟩, hp⟩ : ∃ p, l[k]? = some p := ⟨_, List.getElem?_eq_getElem hk⟩
        have hdrop : l.drop k = (h, y, d, m) :: l.drop (k + 1) := by rw [List.drop_eq_getElem_cons hk, ← (List.getElem?_eq_some_iff.1 hp).2]
        have hs1 := hl _ (List.mem_of_getElem? hp)
        obtain ⟨hs1, hs2⟩ := hs1
        dsimp only at hs1 hs2
        unfold Small at hs1 hs2
        obtain ⟨bb, bo, rfl, hbb, _⟩ := RdR.elem dnC_sz HR.out hG hp
        have HW := Lib.hid (dnRow HR.out hG hp)
        have HP := Lib.hid hp
        have HK := Lib.hid hk
        have HS : Hid (dnErr b (l.drop k) = if keyB h = false then 5 else if keyB y = false then 5 else if inB d 0 4000 = false then 1 else if inB m 0 10000000 = false then 1 else if d < b then 7 else dnErr d (l.drop (k + 1))) := Lib.hid (by rw [hdrop]; rfl)
        have hB5 : Bk (wr.alloc (.cells #[.string h, .string y, .int .i64 d, .int .i64 m] 90)) wr.heap.size 90 #[.string h, .string y, .int .i64 d, .int .i64 m] := Bk.new wr 90 _
        have hG5 : G w (wr.alloc (.cells #[.string h, .string y, .int .i64 d, .int .i64 m] 90)) none := hG.alloc (.cells (dnC (h, y, d, m)) 90)
        clear hdrop hp hG
        go_upto_region 7 with (refine wpList_load_at rfl 90 _ rfl ⟨bb, bo + k * 4, none⟩ rfl #[.string h, .string y, .int .i64 d, .int .i64 m] _ HW.out Tryd.underlying90 rfl (dn_info (h, y, d, m)) ?_)
        clear HW
        generalize wr.alloc (.cells #[.string h, .string y, .int .i64 d, .int .i64 m] 90) = w5 at hB5 hG5 ⊢
        generalize wr.heap.size = g at hB5 ⊢
        have c0 : w5.cell? ⟨g, 0, none⟩ = some (.string h) := hB5.cell 0
        have c1 : w5.cell? ⟨g, 1, none⟩ = some (.string y) := hB5.cell 1
        have c2 : w5.cell? ⟨g, 2, none⟩ = some (.int .i64 d) := hB5.cell 2
        have c3 : w5.cell? ⟨g, 3, none⟩ = some (.int .i64 m) := hB5.cell 3
        go_wp2_with fail
        refine (isKey_c _ _ hs1).mono ?_; rintro e w' ⟨rfl, rfl⟩
        cases k0 : keyB h with
        | false =>
          obtain rfl : E = 5 := by rw [H.out, HE.out, HS.out, if_pos k0]
          clear k0
          go_wp2_with fail
          go_ret
          exact ⟨rfl, hG5⟩
        | true =>
          have K0 := Lib.hid k0
          clear k0
          go_wp2_with fail
          refine (isKey_c _ _ hs2).mono ?_; rintro e w' ⟨rfl, rfl⟩
          cases k1 : keyB y with
          | false =>
            obtain rfl : E = 5 := by rw [H.out, HE.out, HS.out, if_neg (by simp [K0.out]), if_pos k1]
            clear k1
            go_wp2_with fail
            go_ret
            exact ⟨rfl, hG5⟩
          | true =>
            have K1 := Lib.hid k1
            clear k1
            go_wp2_with fail
            refine (svDay_c d _).mono ?_; rintro e w' ⟨rfl, rfl⟩
            cases k2 : inB d 0 4000 with
            | false =>
              obtain rfl : E = 1 := by rw [H.out, HE.out, HS.out, if_neg (by simp [K0.out]), if_neg (by simp [K1.out]), if_pos k2]
              clear k2
              go_wp2_with fail
              go_ret
              exact ⟨rfl, hG5⟩
            | true =>
              have K2 := Lib.hid k2
              clear k2
              go_wp2_with fail
              refine (svMeter_c m _).mono ?_; rintro e w' ⟨rfl, rfl⟩
              cases k3 : inB m 0 10000000 with
              | false =>
                obtain rfl : E = 1 := by rw [H.out, HE.out, HS.out, if_neg (by simp [K0.out]), if_neg (by simp [K1.out]), if_neg (by simp [K2.out]), if_pos k3]
                clear k3
                go_wp2_with fail
                go_ret
                exact ⟨rfl, hG5⟩
              | true =>
                have K3 := Lib.hid k3
                clear k3
                by_cases o0 : d < b
                · obtain rfl : E = 7 := by rw [H.out, HE.out, HS.out, if_neg (by simp [K0.out]), if_neg (by simp [K1.out]), if_neg (by simp [K2.out]), if_neg (by simp [K3.out]), if_pos o0]
                  go_wp2_with fail
                  go_ret
                  exact ⟨rfl, hG5⟩
                · have HF : Hid (dnErr 0 l = dnErr d (l.drop (k + 1))) := Lib.hid (by rw [HE.out, HS.out, if_neg (by simp [K0.out]), if_neg (by simp [K1.out]), if_neg (by simp [K2.out]), if_neg (by simp [K3.out]), if_neg o0])
                  go_wp2_with fail
                  go_roundw
                  case rel => exact ⟨k + 1, d, (by have := HK.out; omega), by go_num, rfl, HF.out, hG5⟩
                  case measure => have := HK.out; simp [intOf]; omega
      · obtain rfl : k = l.length := by omega
        obtain rfl : E = 0 := by rw [H.out, HE.out, List.drop_length]; rfl
        go_wp2_with fail
        go_ret
        exact ⟨rfl, hG⟩
set_option maxRecDepth 100000 in
set_option maxHeartbeats 4000000 in
theorem servicesFault_c (v : Value) (l : List Dn) (w : World) (hr : RdR w 4 dnC v l) (hl : DnOk l) (hn : l.length ≤ 1000000) :
    Calls Tryd.prog 56 #[v] w fun e w' => e = .returned (.int .i64 (dnE l)) ∧ G w w' none := by
  have HR := Lib.hid hr
  obtain ⟨a, cap, rfl, hcap, hm⟩ := RdR.form hr
  clear hr
  obtain ⟨E, hE⟩ : ∃ E, dnE l = E := ⟨_, rfl⟩
  have HEE := Lib.hid hE
  rw [hE]
  clear hE
  by_cases h30 : 500 < l.length
  · obtain rfl : E = 2 := by rw [← HEE.out]; simp [dnE, h30]
    go_enter Tryd.func56, Tryd.ntmps56
    go_wp2_with fail
    go_ret
    exact ⟨rfl, G.refl _ _⟩
  · have H := Lib.hid (show E = dnErr 0 l by rw [← HEE.out]; simp [dnE, h30])
    go_enter Tryd.func56, Tryd.ntmps56
    go_wp2_with fail
    go_loopw [10] (DnfRel w l) (fun i _ => l.length - (intOf i).toNat)
    case atStart => exact ⟨0, by omega, rfl, rfl, G.refl _ _⟩
    case round =>
      obtain ⟨k, hkl, rfl, heq, hG⟩ := hrel
      have HE := Lib.hid heq
      clear heq
      by_cases hk : k < l.length
      · obtain ⟨⟨h, y, d, m⟩, hp⟩ : ∃ p, l[k]? = some p := ⟨_, List.getElem?_eq_getElem hk⟩
        have hdrop : l.drop k = (h, y, d, m) :: l.drop (k + 1) := by rw [List.drop_eq_getElem_cons hk, ← (List.getElem?_eq_some_iff.1 hp).2]
        have hs1 := hl _ (List.mem_of_getElem? hp)
        obtain ⟨hs1, hs2⟩ := hs1
        dsimp only at hs1 hs2
        unfold Small at hs1 hs2
        obtain ⟨bb, bo, rfl, hbb, _⟩ := RdR.elem dnC_sz HR.out hG hp
        have HW := Lib.hid (dnRow HR.out hG hp)
        have HP := Lib.hid hp
        have HK := Lib.hid hk
        have HS : Hid (dnErr (dnB l k) (l.drop k) = if keyB h = false then 5 else if keyB y = false then 5 else if inB d 0 4000 = false then 1 else if inB m 0 10000000 = false then 1 else if d < dnB l k then 7 else dnErr d (l.drop (k + 1))) := Lib.hid (by rw [hdrop]; rfl)
        have HBN : Hid (dnB l (k + 1) = d) := Lib.hid (by show (match l[k]? with | some x => x.2.2.1 | none => 0) = d; rw [hp])
        have HBR : Hid (∀ w' : World, G w w' none → 0 < k → w'.cell? ⟨bb, bo + (k - 1) * 4 + 2, none⟩ = some (.int .i64 (dnB l k))) := Lib.hid (fun w' h q => by
          obtain ⟨j, rfl⟩ : ∃ j, k = j + 1 := ⟨k - 1, by omega⟩
          obtain ⟨⟨p0, p1, p2, p3⟩, hpj⟩ : ∃ p, l[j]? = some p := ⟨_, List.getElem?_eq_getElem (by omega)⟩
          have e := RdR.cell dnC_sz HR.out h hpj 2 (.int .i64 p2) rfl
          rw [show j + 1 - 1 = j by omega, show dnB l (j + 1) = p2 from (show (match l[j]? with | some x => x.2.2.1 | none => 0) = p2 by rw [hpj])]
          exact e)
        have hB5 : Bk (wr.alloc (.cells #[.string h, .string y, .int .i64 d, .int .i64 m] 90)) wr.heap.size 90 #[.string h, .string y, .int .i64 d, .int .i64 m] := Bk.new wr 90 _
        have hG5 : G w (wr.alloc (.cells #[.string h, .string y, .int .i64 d, .int .i64 m] 90)) none := hG.alloc (.cells (dnC (h, y, d, m)) 90)
        clear hdrop hp hG
        go_upto_region 6 with (refine wpList_load_at rfl 90 _ rfl ⟨bb, bo + k * 4, none⟩ rfl #[.string h, .string y, .int .i64 d, .int .i64 m] _ HW.out Tryd.underlying90 rfl (dn_info (h, y, d, m)) ?_)
        clear HW
        generalize wr.alloc (.cells #[.string h, .string y, .int .i64 d, .int .i64 m] 90) = w5 at hB5 hG5 ⊢
        generalize wr.heap.size = g at hB5 ⊢
        have c0 : w5.cell? ⟨g, 0, none⟩ = some (.string h) := hB5.cell 0
        have c1 : w5.cell? ⟨g, 1, none⟩ = some (.string y) := hB5.cell 1
        have c2 : w5.cell? ⟨g, 2, none⟩ = some (.int .i64 d) := hB5.cell 2
        have c3 : w5.cell? ⟨g, 3, none⟩ = some (.int .i64 m) := hB5.cell 3
        go_wp2_with fail
        refine (rkey_c _ _ hs1).mono ?_; rintro e w6 ⟨rfl, hGk⟩
        have hB6 := hB5.quiet hGk
        have hG6 := hG5.trans hGk
        clear hGk c0 c1 c2 c3 hB5 hG5
        have c0 : w6.cell? ⟨g, 0, none⟩ = some (.string h) := hB6.cell 0
        have c1 : w6.cell? ⟨g, 1, none⟩ = some (.string y) := hB6.cell 1
        have c2 : w6.cell? ⟨g, 2, none⟩ = some (.int .i64 d) := hB6.cell 2
        have c3 : w6.cell? ⟨g, 3, none⟩ = some (.int .i64 m) := hB6.cell 3
        cases k0 : keyB h with
        | false =>
          obtain rfl : E = 5 := by rw [H.out, HE.out, HS.out, if_pos k0]
          clear k0
          go_wp2_with fail
          go_ret
          exact ⟨rfl, hG6⟩
        | true =>
          have K0 := Lib.hid k0
          clear k0
          go_wp2_with fail
          refine (rkey_c _ _ hs2).mono ?_; rintro e w7 ⟨rfl, hGk⟩
          have hB7 := hB6.quiet hGk
          have hG7 := hG6.trans hGk
          clear hGk c0 c1 c2 c3 hB6 hG6
          have c0 : w7.cell? ⟨g, 0, none⟩ = some (.string h) := hB7.cell 0
          have c1 : w7.cell? ⟨g, 1, none⟩ = some (.string y) := hB7.cell 1
          have c2 : w7.cell? ⟨g, 2, none⟩ = some (.int .i64 d) := hB7.cell 2
          have c3 : w7.cell? ⟨g, 3, none⟩ = some (.int .i64 m) := hB7.cell 3
          cases k1 : keyB y with
          | false =>
            obtain rfl : E = 5 := by rw [H.out, HE.out, HS.out, if_neg (by simp [K0.out]), if_pos k1]
            clear k1
            go_wp2_with fail
            go_ret
            exact ⟨rfl, hG7⟩
          | true =>
            have K1 := Lib.hid k1
            clear k1
            go_wp2_with fail
            refine (inn_c d 0 4000 _).mono ?_; rintro e w' ⟨rfl, rfl⟩
            cases k2 : inB d 0 4000 with
            | false =>
              obtain rfl : E = 1 := by rw [H.out, HE.out, HS.out, if_neg (by simp [K0.out]), if_neg (by simp [K1.out]), if_pos k2]
              clear k2
              go_wp2_with fail
              go_ret
              exact ⟨rfl, hG7⟩
            | true =>
              have K2 := Lib.hid k2
              clear k2
              go_wp2_with fail
              refine (inn_c m 0 10000000 _).mono ?_; rintro e w' ⟨rfl, rfl⟩
              cases k3 : inB m 0 10000000 with
              | false =>
                obtain rfl : E = 1 := by rw [H.out, HE.out, HS.out, if_neg (by simp [K0.out]), if_neg (by simp [K1.out]), if_neg (by simp [K2.out]), if_pos k3]
                clear k3
                go_wp2_with fail
                go_ret
                exact ⟨rfl, hG7⟩
              | true =>
                have K3 := Lib.hid k3
                clear k3
                generalize hdb : dnB l k = db at HBR HS
                have HDB := Lib.hid hdb
                clear hdb
                by_cases k0 : k = 0
                · have hk0 : ¬ (0 : Int) < (k : Int) := by omega
                  have hkd : decide (0 < k) = false := by simp [k0]
                  have HZ : Hid (¬ d < db) := Lib.hid (by
                    have := HDB.out
                    subst k0
                    have h2 : dnB l 0 = 0 := rfl
                    have h3 := K2.out
                    simp [inB] at h3
                    omega)
                  have HF : Hid (dnErr 0 l = dnErr (dnB l (k + 1)) (l.drop (k + 1))) := Lib.hid (by rw [HBN.out, HE.out, HDB.out, HS.out, if_neg (by simp [K0.out]), if_neg (by simp [K1.out]), if_neg (by simp [K2.out]), if_neg (by simp [K3.out]), if_neg HZ.out])
                  clear k0
                  go_wp2_with fail
                  go_quiet (fail)
                  go_wp2_with fail
                  go_roundw
                  case rel => exact ⟨k + 1, (by have := HK.out; omega), by go_num, HF.out, hG7.drewN _⟩
                  case measure => have := HK.out; simp [intOf]; omega
                · have hk0 : (0 : Int) < (k : Int) := by omega
                  have hkd : decide (0 < k) = true := by simp; omega
                  have hkn : k - 1 < l.length := by have := HK.out; omega
                  have hb0 := HBR.out _ hG7 (by omega)
                  have hki : ((k : Int) - 1) = ((k - 1 : Nat) : Int) := by omega
                  by_cases o0 : d < db
                  · obtain rfl : E = 7 := by rw [H.out, HE.out, HDB.out, HS.out, if_neg (by simp [K0.out]), if_neg (by simp [K1.out]), if_neg (by simp [K2.out]), if_neg (by simp [K3.out]), if_pos o0]
                    go_wp2_with fail
                    go_quiet (fail)
                    go_wp2_with fail
                    go_ret
                    exact ⟨rfl, hG7.drewN _⟩
                  · have HF : Hid (dnErr 0 l = dnErr (dnB l (k + 1)) (l.drop (k + 1))) := Lib.hid (by rw [HBN.out, HE.out, HDB.out, HS.out, if_neg (by simp [K0.out]), if_neg (by simp [K1.out]), if_neg (by simp [K2.out]), if_neg (by simp [K3.out]), if_neg o0])
                    go_wp2_with fail
                    go_quiet (fail)
                    go_wp2_with fail
                    go_roundw
                    case rel => exact ⟨k + 1, (by have := HK.out; omega), by go_num, HF.out, hG7.drewN _⟩
                    case measure => have := HK.out; simp [intOf]; omega
      · obtain rfl : k = l.length := by omega
        obtain rfl : E = 0 := by rw [H.out, HE.out, List.drop_length]; rfl
        go_wp2_with fail
        go_ret
        exact ⟨rfl, hG⟩
end Go.Proofs.YtddedckehllkoaaDoor

/- Services: what right ones keep to (mathematics). -/
namespace Go.Proofs.YtddedckehllkoaaDoor
open Go.RowKit

theorem ivErr_ok (l : List Iv) : ∀ b, ivErr b l = 0 → ∀ x ∈ l, (0 ≤ x.2.1 ∧ x.2.1 ≤ 1000000) ∧ 0 ≤ x.2.2 ∧ x.2.2 ≤ 100000 := by
  induction l with
  | nil => intro b _ x hx; cases hx
  | cons p r ih =>
    intro b h x hx
    unfold ivErr at h
    split at h
    · omega
    split at h
    · omega
    split at h
    · omega
    rename_i k2
    split at h
    · omega
    rename_i k3
    split at h
    · omega
    rcases List.mem_cons.1 hx with rfl | hx
    · simp [inB] at k2 k3; omega
    · exact ih _ h x hx
theorem iv_ok {l : List Iv} (h : ivE l = 0) : ∀ x ∈ l, (0 ≤ x.2.1 ∧ x.2.1 ≤ 1000000) ∧ 0 ≤ x.2.2 ∧ x.2.2 ≤ 100000 := by
  unfold ivE at h
  split at h
  · omega
  · exact ivErr_ok l _ h
theorem dnErr_ok (l : List Dn) : ∀ b, dnErr b l = 0 → ∀ x ∈ l, (0 ≤ x.2.2.1 ∧ x.2.2.1 ≤ 4000) ∧ 0 ≤ x.2.2.2 ∧ x.2.2.2 ≤ 10000000 := by
  induction l with
  | nil => intro b _ x hx; cases hx
  | cons p r ih =>
    intro b h x hx
    unfold dnErr at h
    split at h
    · omega
    split at h
    · omega
    split at h
    · omega
    rename_i k2
    split at h
    · omega
    rename_i k3
    split at h
    · omega
    rcases List.mem_cons.1 hx with rfl | hx
    · simp [inB] at k2 k3; omega
    · exact ih _ h x hx
theorem dn_ok {l : List Dn} (h : dnE l = 0) : ∀ x ∈ l, (0 ≤ x.2.2.1 ∧ x.2.2.1 ≤ 4000) ∧ 0 ≤ x.2.2.2 ∧ x.2.2.2 ≤ 10000000 := by
  unfold dnE at h
  split at h
  · omega
  · exact dnErr_ok l _ h
theorem ls_ok {v k : ByteArray} {d : List Dn} {f : Dn} (hd : ∀ x ∈ d, (0 ≤ x.2.2.1 ∧ x.2.2.1 ≤ 4000) ∧ 0 ≤ x.2.2.2 ∧ x.2.2.2 ≤ 10000000) (hf : (0 ≤ f.2.2.1 ∧ f.2.2.1 ≤ 4000) ∧ 0 ≤ f.2.2.2 ∧ f.2.2.2 ≤ 10000000) : (0 ≤ ((lsO v k d).getD f).2.2.1 ∧ ((lsO v k d).getD f).2.2.1 ≤ 4000) ∧ 0 ≤ ((lsO v k d).getD f).2.2.2 ∧ ((lsO v k d).getD f).2.2.2 ≤ 10000000 := by
  cases h : lsO v k d with
  | none => exact hf
  | some u => exact hd u (lsO_mem h)
end Go.Proofs.YtddedckehllkoaaDoor

/- shift.dueOf. Written by gendof.py. -/
namespace Go.Proofs.YtddedckehllkoaaDoor
open Go.RowKit

theorem du_info (x : Du) : (Tryd.prog.info? 98).map (·.size) = some (duC x).size := (by kernel_rfl : (Tryd.prog.info? 98).map (·.size) = some 3)
set_option maxRecDepth 100000 in
set_option maxHeartbeats 4000000 in
theorem dueOf_c (k v y : ByteArray) (a b d t m : Int) (w : World) (ha : 0 ≤ a ∧ a ≤ 1000000) (hb : 0 ≤ b ∧ b ≤ 100000) (hd : 0 ≤ d ∧ d ≤ 4000) (ht : 0 ≤ t ∧ t ≤ 10000000) (hm : 0 ≤ m ∧ m ≤ 10000000) :
    Calls Tryd.prog 98 #[.agg #[.string k, .int .i64 a, .int .i64 b], .agg #[.string v, .string y, .int .i64 d, .int .i64 t], .int .i64 m] w fun e w' => e = .returned (.agg #[.string k, .int .i64 (if b = 0 then 1000000 else d + b), .int .i64 (if a = 0 then 1000000000 else t + a - m)]) ∧ G w w' none := by
  obtain ⟨ha0, ha1⟩ := ha
  obtain ⟨hb0, hb1⟩ := hb
  obtain ⟨hd0, hd1⟩ := hd
  obtain ⟨ht0, ht1⟩ := ht
  obtain ⟨hm0, hm1⟩ := hm
  have hI : Bk (((w.alloc (.cells #[.string k, .int .i64 a, .int .i64 b] 149)).alloc (.cells #[.string v, .string y, .int .i64 d, .int .i64 t] 90)).alloc (.cells #[.string ⟨#[]⟩, .int .i64 0, .int .i64 0] 98)) w.heap.size 149 #[.string k, .int .i64 a, .int .i64 b] := ((Bk.new w 149 #[.string k, .int .i64 a, .int .i64 b]).alloc _).alloc _
  have hS : Bk (((w.alloc (.cells #[.string k, .int .i64 a, .int .i64 b] 149)).alloc (.cells #[.string v, .string y, .int .i64 d, .int .i64 t] 90)).alloc (.cells #[.string ⟨#[]⟩, .int .i64 0, .int .i64 0] 98)) (w.heap.size + 1) 90 #[.string v, .string y, .int .i64 d, .int .i64 t] := (Bk.newAt (w := w.alloc (.cells #[.string k, .int .i64 a, .int .i64 b] 149)) (b := w.heap.size + 1) (by simp) 90 #[.string v, .string y, .int .i64 d, .int .i64 t]).alloc _
  have hR : Bk (((w.alloc (.cells #[.string k, .int .i64 a, .int .i64 b] 149)).alloc (.cells #[.string v, .string y, .int .i64 d, .int .i64 t] 90)).alloc (.cells #[.string ⟨#[]⟩, .int .i64 0, .int .i64 0] 98)) (w.heap.size + 2) 98 #[.string ⟨#[]⟩, .int .i64 0, .int .i64 0] := Bk.newAt (by simp) _ _
  have hG := (((G.refl w none).alloc (.cells #[.string k, .int .i64 a, .int .i64 b] 149)).alloc (.cells #[.string v, .string y, .int .i64 d, .int .i64 t] 90)).alloc (.cells #[.string ⟨#[]⟩, .int .i64 0, .int .i64 0] 98)
  obtain ⟨A, hA⟩ : ∃ A, (if b = 0 then 1000000 else d + b) = A := ⟨_, rfl⟩
  obtain ⟨B, hB⟩ : ∃ B, (if a = 0 then 1000000000 else t + a - m) = B := ⟨_, rfl⟩
  rw [hA, hB]
  have HA := Lib.hid hA
  have HB := Lib.hid hB
  clear hA hB
  go_enter Tryd.func98, Tryd.ntmps98
  go_upto_region 1 with fail
  generalize ((w.alloc (.cells #[.string k, .int .i64 a, .int .i64 b] 149)).alloc (.cells #[.string v, .string y, .int .i64 d, .int .i64 t] 90)).alloc (.cells #[.string ⟨#[]⟩, .int .i64 0, .int .i64 0] 98) = w1 at hI hS hR hG ⊢
  have hgg : w.heap.size ≤ w.heap.size + 2 := by omega
  have q1 : w.heap.size ≠ w.heap.size + 2 := by omega
  have q2 : w.heap.size + 1 ≠ w.heap.size + 2 := by omega
  generalize w.heap.size + 2 = r at hR hgg q1 q2 ⊢
  generalize w.heap.size + 1 = s at hS q2 ⊢
  obtain ⟨g, hg⟩ : ∃ g, w.heap.size = g := ⟨_, rfl⟩
  have hgr : w.heap.size ≤ r := hgg
  have q3 : g ≠ r := by rw [← hg]; exact q1
  rw [hg] at hI ⊢
  clear hg hgg q1
  have i0 : w1.cell? ⟨g, 0, none⟩ = some (.string k) := hI.cell 0
  go_upto_region 2 with fail
  have hD := Bk.new w1 98 #[.string k, .int .i64 1000000, .int .i64 1000000000]
  have q4 : w1.heap.size ≠ g := by have := hI.lt; omega
  have q5 : w1.heap.size ≠ s := by have := hS.lt; omega
  have q6 : w1.heap.size ≠ r := by have := hR.lt; omega
  have hnw : w.heap.size ≤ w1.heap.size := hG.size
  replace hI := hI.alloc (.cells #[.string k, .int .i64 1000000, .int .i64 1000000000] 98)
  replace hS := hS.alloc (.cells #[.string k, .int .i64 1000000, .int .i64 1000000000] 98)
  replace hR := hR.alloc (.cells #[.string k, .int .i64 1000000, .int .i64 1000000000] 98)
  replace hG := hG.alloc (.cells #[.string k, .int .i64 1000000, .int .i64 1000000000] 98)
  clear i0
  generalize w1.alloc (.cells #[.string k, .int .i64 1000000, .int .i64 1000000000] 98) = w2 at hI hS hR hD hG ⊢
  generalize w1.heap.size = n at hD q4 q5 q6 hnw ⊢
  have p3 := q3.symm
  have p4 := q4.symm
  have p5 := q5.symm
  have p6 := q6.symm
  have i1 : w2.cell? ⟨g, 1, none⟩ = some (.int .i64 a) := hI.cell 1
  have i2 : w2.cell? ⟨g, 2, none⟩ = some (.int .i64 b) := hI.cell 2
  have s2 : w2.cell? ⟨s, 2, none⟩ = some (.int .i64 d) := hS.cell 2
  have s3 : w2.cell? ⟨s, 3, none⟩ = some (.int .i64 t) := hS.cell 3
  have n0 : w2.cell? ⟨n, 0, none⟩ = some (.string k) := hD.cell 0
  have n1 : w2.cell? ⟨n, 1, none⟩ = some (.int .i64 1000000) := hD.cell 1
  have n2 : w2.cell? ⟨n, 2, none⟩ = some (.int .i64 1000000000) := hD.cell 2
  have fn1 : w2.frozen? ⟨n, 1, none⟩ = false := hD.free 1
  have fn2 : w2.frozen? ⟨n, 2, none⟩ = false := hD.free 2
  have r0 : w2.cell? ⟨r, 0, none⟩ = some (.string ⟨#[]⟩) := hR.cell 0
  have r1 : w2.cell? ⟨r, 1, none⟩ = some (.int .i64 0) := hR.cell 1
  have r2 : w2.cell? ⟨r, 2, none⟩ = some (.int .i64 0) := hR.cell 2
  have fr0 : w2.frozen? ⟨r, 0, none⟩ = false := hR.free 0
  have fr1 : w2.frozen? ⟨r, 1, none⟩ = false := hR.free 1
  have fr2 : w2.frozen? ⟨r, 2, none⟩ = false := hR.free 2
  by_cases b0 : b = 0
  · by_cases a0 : a = 0
    · obtain rfl : A = 1000000 := by rw [← HA.out, if_pos b0]
      subst b0
      obtain rfl : B = 1000000000 := by rw [← HB.out, if_pos a0]
      subst a0
      clear HA HB
      go_wp2_with fail
      refine bodyPost_ret (results_cell_row rfl _ _ r 98 #[.string k, .int .i64 1000000, .int .i64 1000000000] (0, 0) _ rfl (((hR.set 0 (.string k)).set 1 (.int .i64 1000000)).set 2 (.int .i64 1000000000)) Tryd.underlying98 rfl (du_info (k,  1000000,  1000000000))) rfl ?_
      exact ⟨rfl, (((hG.setCell (p := ⟨r, 0, none⟩) (.inl hgr) (.string k)).setCell (p := ⟨r, 1, none⟩) (.inl hgr) (.int .i64 1000000)).setCell (p := ⟨r, 2, none⟩) (.inl hgr) (.int .i64 1000000000))⟩
    · obtain rfl : A = 1000000 := by rw [← HA.out, if_pos b0]
      subst b0
      obtain rfl : B = t + a - m := by rw [← HB.out, if_neg a0]
      have a1 : (a != 0) = true := bne_iff_ne.2 a0
      clear a0
      clear HA HB
      go_wp2_with fail
      refine bodyPost_ret (results_cell_row rfl _ _ r 98 #[.string k, .int .i64 1000000, .int .i64 (t + a - m)] (0, 0) _ rfl ((((hR.far (p := ⟨n, 2, none⟩) p6 (.int .i64 (t + a - m))).set 0 (.string k)).set 1 (.int .i64 1000000)).set 2 (.int .i64 (t + a - m))) Tryd.underlying98 rfl (du_info (k,  1000000,  (t + a - m)))) rfl ?_
      exact ⟨rfl, ((((hG.setCell (p := ⟨n, 2, none⟩) (.inl hnw) (.int .i64 (t + a - m))).setCell (p := ⟨r, 0, none⟩) (.inl hgr) (.string k)).setCell (p := ⟨r, 1, none⟩) (.inl hgr) (.int .i64 1000000)).setCell (p := ⟨r, 2, none⟩) (.inl hgr) (.int .i64 (t + a - m)))⟩
  · by_cases a0 : a = 0
    · obtain rfl : A = d + b := by rw [← HA.out, if_neg b0]
      have b1 : (b != 0) = true := bne_iff_ne.2 b0
      clear b0
      obtain rfl : B = 1000000000 := by rw [← HB.out, if_pos a0]
      subst a0
      clear HA HB
      go_wp2_with fail
      refine bodyPost_ret (results_cell_row rfl _ _ r 98 #[.string k, .int .i64 (d + b), .int .i64 1000000000] (0, 0) _ rfl ((((hR.far (p := ⟨n, 1, none⟩) p6 (.int .i64 (d + b))).set 0 (.string k)).set 1 (.int .i64 (d + b))).set 2 (.int .i64 1000000000)) Tryd.underlying98 rfl (du_info (k,  (d + b),  1000000000))) rfl ?_
      exact ⟨rfl, ((((hG.setCell (p := ⟨n, 1, none⟩) (.inl hnw) (.int .i64 (d + b))).setCell (p := ⟨r, 0, none⟩) (.inl hgr) (.string k)).setCell (p := ⟨r, 1, none⟩) (.inl hgr) (.int .i64 (d + b))).setCell (p := ⟨r, 2, none⟩) (.inl hgr) (.int .i64 1000000000))⟩
    · obtain rfl : A = d + b := by rw [← HA.out, if_neg b0]
      have b1 : (b != 0) = true := bne_iff_ne.2 b0
      clear b0
      obtain rfl : B = t + a - m := by rw [← HB.out, if_neg a0]
      have a1 : (a != 0) = true := bne_iff_ne.2 a0
      clear a0
      clear HA HB
      go_wp2_with fail
      refine bodyPost_ret (results_cell_row rfl _ _ r 98 #[.string k, .int .i64 (d + b), .int .i64 (t + a - m)] (0, 0) _ rfl (((((hR.far (p := ⟨n, 1, none⟩) p6 (.int .i64 (d + b))).far (p := ⟨n, 2, none⟩) p6 (.int .i64 (t + a - m))).set 0 (.string k)).set 1 (.int .i64 (d + b))).set 2 (.int .i64 (t + a - m))) Tryd.underlying98 rfl (du_info (k,  (d + b),  (t + a - m)))) rfl ?_
      exact ⟨rfl, (((((hG.setCell (p := ⟨n, 1, none⟩) (.inl hnw) (.int .i64 (d + b))).setCell (p := ⟨n, 2, none⟩) (.inl hnw) (.int .i64 (t + a - m))).setCell (p := ⟨r, 0, none⟩) (.inl hgr) (.string k)).setCell (p := ⟨r, 1, none⟩) (.inl hgr) (.int .i64 (d + b))).setCell (p := ⟨r, 2, none⟩) (.inl hgr) (.int .i64 (t + a - m)))⟩
end Go.Proofs.YtddedckehllkoaaDoor

/- What is due first: shift.checkDues, dayOf, By; the reference's ByFault. Written by genbyd.py. -/
namespace Go.Proofs.YtddedckehllkoaaDoor
open Go.RowKit

def DuOk (l : List Du) : Prop := ∀ x ∈ l, Small x.1
def dErr : List Du → Int
  | [] => 0
  | x :: r => if inB x.2.1 0 1000000 = false then 1 else if inB x.2.2 (-1000000000) 1000000000 = false then 1 else dErr r
def deE (l : List Du) : Int := if l.length = 0 then 8 else if 500 < l.length then 2 else dErr l
def byE (l : List Du) (t y : Int) : Int := if deE l = 0 then (if inB t 0 4000 = false then 1 else if inB y 0 10000 = false then 1 else 0) else deE l
def byR (l : List Du) (t y : Int) : ByteArray × Int := match l with | [] => (⟨#[]⟩, 0) | x :: _ => bsL t y (x.1, dayL t y x) l
theorem dErr_ok (l : List Du) (h : dErr l = 0) : ∀ x ∈ l, (0 ≤ x.2.1 ∧ x.2.1 ≤ 1000000) ∧ -1000000000 ≤ x.2.2 ∧ x.2.2 ≤ 1000000000 := by
  induction l with
  | nil => intro x hx; cases hx
  | cons p r ih =>
    unfold dErr at h
    split at h
    · omega
    rename_i k1
    split at h
    · omega
    rename_i k2
    intro x hx
    rcases List.mem_cons.1 hx with rfl | hx
    · simp [inB] at k1 k2; omega
    · exact ih h x hx
theorem deE_ok {l : List Du} (h : deE l = 0) : (∀ x ∈ l, (0 ≤ x.2.1 ∧ x.2.1 ≤ 1000000) ∧ -1000000000 ≤ x.2.2 ∧ x.2.2 ≤ 1000000000) ∧ 0 < l.length := by
  unfold deE at h
  split at h
  · omega
  split at h
  · omega
  exact ⟨dErr_ok l h, by omega⟩
theorem duRow {W w : World} {bb bo n cap : Nat} {l : List Du} (h : RdR W 3 duC (.slice (some ⟨bb, bo, none⟩) n cap) l) (hG : G W w none) {k : Nat} {p : Du} (hp : l[k]? = some p) :
    ∀ j v, (duC p).toList[j]? = some v → w.cell? ((⟨bb, bo + k * 3, none⟩ : Addr).add j) = some v := fun j v hv => by
  rw [add_at]
  exact RdR.cell duC_sz h hG hp j v hv
def DeRel (w : World) (l : List Du) (i : Value) (wr : World) : Prop := ∃ k : Nat, k ≤ l.length ∧ i = .int .i64 k ∧ dErr l = dErr (l.drop k) ∧ G w wr none
set_option maxRecDepth 100000 in
set_option maxHeartbeats 4000000 in
theorem dayOf_c (q : ByteArray) (b c t y : Int) (w : World) (hb : 0 ≤ b ∧ b ≤ 1000000) (hc : -1000000000 ≤ c ∧ c ≤ 1000000000) (ht : 0 ≤ t ∧ t ≤ 4000) (hy : 0 ≤ y ∧ y ≤ 10000) :
    Calls Tryd.prog 102 #[.agg #[.string q, .int .i64 b, .int .i64 c], .int .i64 t, .int .i64 y] w fun e w' => e = .returned (.int .i64 (dayL t y (q, b, c))) ∧ G w w' none := by
  obtain ⟨hb0, hb1⟩ := hb
  obtain ⟨hc0, hc1⟩ := hc
  obtain ⟨ht0, ht1⟩ := ht
  obtain ⟨hy0, hy1⟩ := hy
  obtain ⟨N, hN⟩ : ∃ N, dayL t y (q, b, c) = N := ⟨_, rfl⟩
  have HN : Hid (N = if c = 1000000000 then b else if c < 0 then min b t else if y = 0 then b else min b (t + c / y)) := Lib.hid (by rw [← hN]; rfl)
  rw [hN]
  clear hN
  have hB := Bk.new w 98 #[.string q, .int .i64 b, .int .i64 c]
  have hG := (G.refl w none).alloc (.cells #[.string q, .int .i64 b, .int .i64 c] 98)
  go_enter Tryd.func102, Tryd.ntmps102
  go_upto_region 1 with fail
  generalize w.alloc (.cells #[.string q, .int .i64 b, .int .i64 c] 98) = w1 at hB hG ⊢
  generalize w.heap.size = g at hB ⊢
  have c1 : w1.cell? ⟨g, 1, none⟩ = some (.int .i64 b) := hB.cell 1
  have c2 : w1.cell? ⟨g, 2, none⟩ = some (.int .i64 c) := hB.cell 2
  by_cases k0 : c = 1000000000
  · obtain rfl : N = b := by rw [HN.out, if_pos k0]
    have k1 : (c == 1000000000) = true := by simp [k0]
    clear HN k0
    go_wp2_with fail
    go_ret
    exact ⟨rfl, hG⟩
  have k1 : (c == 1000000000) = false := beq_eq_false_iff_ne.2 k0
  by_cases k2 : c < 0
  · obtain rfl : N = min b t := by rw [HN.out, if_neg k0, if_pos k2]
    clear HN k0
    go_wp2_with fail
    go_ret
    exact ⟨rfl, hG⟩
  by_cases k3 : y = 0
  · obtain rfl : N = b := by rw [HN.out, if_neg k0, if_neg k2, if_pos k3]
    have k4 : (y == 0) = true := by simp [k3]
    clear HN k0 k3
    go_wp2_with fail
    go_ret
    exact ⟨rfl, hG⟩
  · obtain rfl : N = min b (t + c / y) := by rw [HN.out, if_neg k0, if_neg k2, if_neg k3]
    have k4 : (y == 0) = false := beq_eq_false_iff_ne.2 k3
    have hq0 : 0 ≤ c / y := Int.ediv_nonneg (by omega) (by omega)
    have hq1 : c / y ≤ 1000000000 := Int.le_trans (Int.ediv_le_self _ (by omega)) hc1
    have hyp : 0 < y := by omega
    have hcp : 0 ≤ c := by omega
    clear HN k0
    go_wp2_with fail
    go_quiet (fail)
    go_wp2_with fail
    go_ret
    exact ⟨rfl, hG.drewN _⟩
set_option maxRecDepth 100000 in
set_option maxHeartbeats 4000000 in
theorem checkDues_c (v : Value) (l : List Du) (w : World) (hr : RdR w 3 duC v l) (hn : l.length ≤ 1000) :
    Calls Tryd.prog 101 #[v] w fun e w' => e = .returned (.int .i64 (deE l)) ∧ G w w' none := by
  have HR := Lib.hid hr
  obtain ⟨a, cap, rfl, hcap, hm⟩ := RdR.form hr
  clear hr
  obtain ⟨E, hE⟩ : ∃ E, deE l = E := ⟨_, rfl⟩
  have HE0 : Hid (E = deE l) := Lib.hid hE.symm
  rw [hE]
  clear hE
  have HD : Hid (deE l = if l.length = 0 then 8 else if 500 < l.length then 2 else dErr l) := Lib.hid rfl
  generalize deE l = D at HE0 HD
  by_cases h0 : l.length = 0
  · obtain rfl : D = 8 := by rw [HD.out, if_pos h0]
    obtain rfl : E = 8 := HE0.out
    obtain rfl : l = [] := List.eq_nil_of_length_eq_zero h0
    clear h0
    go_enter Tryd.func101, Tryd.ntmps101
    go_wp2_with fail
    go_ret
    exact ⟨rfl, G.refl _ _⟩
  have h0i : ((l.length : Int) == 0) = false := by rw [beq_eq_false_iff_ne]; omega
  have h0n : (l.length == 0) = false := by rw [beq_eq_false_iff_ne]; omega
  have h0p : 0 < l.length := by omega
  by_cases h30 : 500 < l.length
  · obtain rfl : D = 2 := by rw [HD.out, if_neg h0, if_pos h30]
    obtain rfl : E = 2 := HE0.out
    clear h0
    go_enter Tryd.func101, Tryd.ntmps101
    go_wp2_with fail
    go_ret
    exact ⟨rfl, G.refl _ _⟩
  · have H : Hid (D = dErr l) := Lib.hid (by rw [HD.out, if_neg h0, if_neg h30])
    clear h0 HD
    go_enter Tryd.func101, Tryd.ntmps101
    go_wp2_with fail
    go_loopw [13] (DeRel w l) (fun i _ => l.length - (intOf i).toNat)
    case atStart => exact ⟨0, by omega, rfl, rfl, G.refl _ _⟩
    case round =>
      obtain ⟨k, hkl, rfl, heq, hG⟩ := hrel
      have HE := Lib.hid heq
      clear heq
      by_cases hk : k < l.length
      · obtain ⟨⟨q, b, c⟩, hp⟩ : ∃ p, l[k]? = some p := ⟨_, List.getElem?_eq_getElem hk⟩
        have HS : Hid (dErr (l.drop k) = if inB b 0 1000000 = false then 1 else if inB c (-1000000000) 1000000000 = false then 1 else dErr (l.drop (k + 1))) := Lib.hid (by rw [List.drop_eq_getElem_cons hk, (List.getElem?_eq_some_iff.1 hp).2]; rfl)
        obtain ⟨bb, bo, rfl, hbb, -⟩ := RdR.elem duC_sz HR.out hG hp
        have HW := Lib.hid (duRow HR.out hG hp)
        have HK := Lib.hid hk
        have hB5 : Bk (wr.alloc (.cells #[.string q, .int .i64 b, .int .i64 c] 98)) wr.heap.size 98 #[.string q, .int .i64 b, .int .i64 c] := Bk.new wr 98 _
        have hG5 := hG.alloc (.cells #[.string q, .int .i64 b, .int .i64 c] 98)
        clear hp hG
        go_upto_region 8 with (refine wpList_load_at rfl 98 _ rfl ⟨bb, bo + k * 3, none⟩ rfl #[.string q, .int .i64 b, .int .i64 c] _ HW.out Tryd.underlying98 rfl (du_info (q, b, c)) ?_)
        clear HW
        generalize wr.alloc (.cells #[.string q, .int .i64 b, .int .i64 c] 98) = w5 at hB5 hG5 ⊢
        generalize wr.heap.size = g at hB5 ⊢
        have c1 : w5.cell? ⟨g, 1, none⟩ = some (.int .i64 b) := hB5.cell 1
        have c2 : w5.cell? ⟨g, 2, none⟩ = some (.int .i64 c) := hB5.cell 2
        go_wp2_with fail
        refine (within_c b 0 1000000 _).mono ?_; rintro e w' ⟨rfl, rfl⟩
        cases k1 : inB b 0 1000000 with
        | false =>
          obtain rfl : D = 1 := by rw [H.out, HE.out, HS.out, if_pos k1]
          obtain rfl : E = 1 := HE0.out
          clear k1
          go_wp2_with fail
          go_ret
          exact ⟨rfl, hG5⟩
        | true =>
          have K1 := Lib.hid k1
          clear k1
          go_wp2_with fail
          refine (within_c c (-1000000000) 1000000000 _).mono ?_; rintro e w' ⟨rfl, rfl⟩
          cases k2 : inB c (-1000000000) 1000000000 with
          | false =>
            obtain rfl : D = 1 := by rw [H.out, HE.out, HS.out, if_neg (by simp [K1.out]), if_pos k2]
            obtain rfl : E = 1 := HE0.out
            clear k2
            go_wp2_with fail
            go_ret
            exact ⟨rfl, hG5⟩
          | true =>
            have HF : Hid (dErr l = dErr (l.drop (k + 1))) := Lib.hid (by rw [HE.out, HS.out, if_neg (by simp [K1.out]), if_neg (by simp [k2])])
            clear k2
            go_wp2_with fail
            go_roundw
            case rel => exact ⟨k + 1, (by have := HK.out; omega), by go_num, HF.out, hG5⟩
            case measure => have := HK.out; simp [intOf]; omega
      · obtain rfl : k = l.length := by omega
        obtain rfl : D = 0 := by rw [H.out, HE.out, List.drop_length]; rfl
        obtain rfl : E = 0 := HE0.out
        go_wp2_with fail
        go_ret
        exact ⟨rfl, hG⟩
set_option maxRecDepth 100000 in
set_option maxHeartbeats 4000000 in
theorem byFault_c (v : Value) (l : List Du) (t y : Int) (w : World) (hr : RdR w 3 duC v l) (hn : l.length ≤ 1000) :
    Calls Tryd.prog 65 #[v, .int .i64 t, .int .i64 y] w fun e w' => e = .returned (.int .i64 (byE l t y)) ∧ G w w' none := by
  have HR := Lib.hid hr
  obtain ⟨a, cap, rfl, hcap, hm⟩ := RdR.form hr
  clear hr
  obtain ⟨E, hE⟩ : ∃ E, byE l t y = E := ⟨_, rfl⟩
  have HE0 : Hid (E = if deE l = 0 then (if inB t 0 4000 = false then 1 else if inB y 0 10000 = false then 1 else 0) else deE l) := Lib.hid hE.symm
  rw [hE]
  clear hE
  have HD : Hid (deE l = if l.length = 0 then 8 else if 500 < l.length then 2 else dErr l) := Lib.hid rfl
  generalize deE l = D at HE0 HD
  by_cases h0 : l.length = 0
  · obtain rfl : D = 8 := by rw [HD.out, if_pos h0]
    obtain rfl : E = 8 := by have h := HE0.out; simpa using h
    obtain rfl : l = [] := List.eq_nil_of_length_eq_zero h0
    clear h0
    go_enter Tryd.func65, Tryd.ntmps65
    go_wp2_with fail
    go_ret
    exact ⟨rfl, G.refl _ _⟩
  have h0i : ((l.length : Int) == 0) = false := by rw [beq_eq_false_iff_ne]; omega
  have h0n : (l.length == 0) = false := by rw [beq_eq_false_iff_ne]; omega
  have h0p : 0 < l.length := by omega
  by_cases h30 : 500 < l.length
  · obtain rfl : D = 2 := by rw [HD.out, if_neg h0, if_pos h30]
    obtain rfl : E = 2 := by have h := HE0.out; simpa using h
    clear h0
    go_enter Tryd.func65, Tryd.ntmps65
    go_wp2_with fail
    go_ret
    exact ⟨rfl, G.refl _ _⟩
  · have H : Hid (D = dErr l) := Lib.hid (by rw [HD.out, if_neg h0, if_neg h30])
    clear h0 HD
    go_enter Tryd.func65, Tryd.ntmps65
    go_wp2_with fail
    go_loopw [19] (DeRel w l) (fun i _ => l.length - (intOf i).toNat)
    case atStart => exact ⟨0, by omega, rfl, rfl, G.refl _ _⟩
    case round =>
      obtain ⟨k, hkl, rfl, heq, hG⟩ := hrel
      have HE := Lib.hid heq
      clear heq
      by_cases hk : k < l.length
      · obtain ⟨⟨q, b, c⟩, hp⟩ : ∃ p, l[k]? = some p := ⟨_, List.getElem?_eq_getElem hk⟩
        have HS : Hid (dErr (l.drop k) = if inB b 0 1000000 = false then 1 else if inB c (-1000000000) 1000000000 = false then 1 else dErr (l.drop (k + 1))) := Lib.hid (by rw [List.drop_eq_getElem_cons hk, (List.getElem?_eq_some_iff.1 hp).2]; rfl)
        obtain ⟨bb, bo, rfl, hbb, -⟩ := RdR.elem duC_sz HR.out hG hp
        have HW := Lib.hid (duRow HR.out hG hp)
        have HK := Lib.hid hk
        have hB5 : Bk (wr.alloc (.cells #[.string q, .int .i64 b, .int .i64 c] 98)) wr.heap.size 98 #[.string q, .int .i64 b, .int .i64 c] := Bk.new wr 98 _
        have hG5 := hG.alloc (.cells #[.string q, .int .i64 b, .int .i64 c] 98)
        clear hp hG
        go_upto_region 8 with (refine wpList_load_at rfl 98 _ rfl ⟨bb, bo + k * 3, none⟩ rfl #[.string q, .int .i64 b, .int .i64 c] _ HW.out Tryd.underlying98 rfl (du_info (q, b, c)) ?_)
        clear HW
        generalize wr.alloc (.cells #[.string q, .int .i64 b, .int .i64 c] 98) = w5 at hB5 hG5 ⊢
        generalize wr.heap.size = g at hB5 ⊢
        have c1 : w5.cell? ⟨g, 1, none⟩ = some (.int .i64 b) := hB5.cell 1
        have c2 : w5.cell? ⟨g, 2, none⟩ = some (.int .i64 c) := hB5.cell 2
        go_wp2_with fail
        refine (inn_c b 0 1000000 _).mono ?_; rintro e w' ⟨rfl, rfl⟩
        cases k1 : inB b 0 1000000 with
        | false =>
          obtain rfl : D = 1 := by rw [H.out, HE.out, HS.out, if_pos k1]
          obtain rfl : E = 1 := by have h := HE0.out; simpa using h
          clear k1
          go_wp2_with fail
          go_ret
          exact ⟨rfl, hG5⟩
        | true =>
          have K1 := Lib.hid k1
          clear k1
          go_wp2_with fail
          refine (inn_c c (-1000000000) 1000000000 _).mono ?_; rintro e w' ⟨rfl, rfl⟩
          cases k2 : inB c (-1000000000) 1000000000 with
          | false =>
            obtain rfl : D = 1 := by rw [H.out, HE.out, HS.out, if_neg (by simp [K1.out]), if_pos k2]
            obtain rfl : E = 1 := by have h := HE0.out; simpa using h
            clear k2
            go_wp2_with fail
            go_ret
            exact ⟨rfl, hG5⟩
          | true =>
            have HF : Hid (dErr l = dErr (l.drop (k + 1))) := Lib.hid (by rw [HE.out, HS.out, if_neg (by simp [K1.out]), if_neg (by simp [k2])])
            clear k2
            go_wp2_with fail
            go_roundw
            case rel => exact ⟨k + 1, (by have := HK.out; omega), by go_num, HF.out, hG5⟩
            case measure => have := HK.out; simp [intOf]; omega
      · obtain rfl : k = l.length := by omega
        obtain rfl : D = 0 := by rw [H.out, HE.out, List.drop_length]; rfl
        have HT : Hid (E = if inB t 0 4000 = false then 1 else if inB y 0 10000 = false then 1 else 0) := Lib.hid (by have h := HE0.out; simpa using h)
        go_wp2_with fail
        refine (inn_c t 0 4000 _).mono ?_; rintro e w' ⟨rfl, rfl⟩
        cases k1 : inB t 0 4000 with
        | false =>
          obtain rfl : E = 1 := by rw [HT.out, if_pos k1]
          clear k1
          go_wp2_with fail
          go_ret
          exact ⟨rfl, hG⟩
        | true =>
          go_wp2_with fail
          refine (inn_c y 0 10000 _).mono ?_; rintro e w' ⟨rfl, rfl⟩
          cases k2 : inB y 0 10000 with
          | false =>
            obtain rfl : E = 1 := by rw [HT.out, if_neg (by simp [k1]), if_pos k2]
            clear k1 k2
            go_wp2_with fail
            go_ret
            exact ⟨rfl, hG⟩
          | true =>
            obtain rfl : E = 0 := by rw [HT.out, if_neg (by simp [k1]), if_neg (by simp [k2])]
            clear k1 k2
            go_wp2_with fail
            go_ret
            exact ⟨rfl, hG⟩
end Go.Proofs.YtddedckehllkoaaDoor
