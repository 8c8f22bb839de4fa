/- Bookings: checkForm; the reference's BookingForm. -/
import Derived.Test.YtgddchdpeflmoaaDoorRow
import Derived.Test.YtgddchdpeflmoaaDoorErrs
import Derived.Test.YtgddchdpeflmoaaDoorOrd
import Derived.Test.YtgddchdpeflmoaaDoorTmb
namespace Go.Proofs.YtgddchdpeflmoaaDoor
open Go.RowKit

/-- A booking: key, class, from, to, made, percent. -/
abbrev Bo := ByteArray × ByteArray × Int × Int × Int × Int
def boC (x : Bo) : Array Value := #[.string x.1, .string x.2.1, .int .i64 x.2.2.1, .int .i64 x.2.2.2.1, .int .i64 x.2.2.2.2.1, .int .i64 x.2.2.2.2.2]
theorem boC_sz (x : Bo) : (boC x).size = 6 := rfl
theorem bo_info (x : Bo) : (Tryd.prog.info? 92).map (·.size) = some (boC x).size := (by kernel_rfl : (Tryd.prog.info? 92).map (·.size) = some 6)
def boB (x : Bo) : Prop := Small x.1 ∧ Small x.2.1 ∧ bnd x.2.2.1 ∧ bnd x.2.2.2.1 ∧ bnd x.2.2.2.2.1 ∧ bnd x.2.2.2.2.2
def BoOk (l : List Bo) : Prop := ∀ x ∈ l, boB x
def boT (a z m p : Int) : Bool := timB a z && (inB m 0 a && inB p 0 100)
def boErr (b : ByteArray) : List Bo → Int
  | [] => 0
  | x :: r => if keyB x.1 = false then 5 else if keyB x.2.1 = false then 5 else if leB x.1 b = true then 7 else if boT x.2.2.1 x.2.2.2.1 x.2.2.2.2.1 x.2.2.2.2.2 = false then 1 else boErr x.1 r
def boE (l : List Bo) : Int := if 500 < l.length then 2 else boErr ⟨#[]⟩ l
def BoRel (w : World) (l : List Bo) (v i : Value) (wr : World) : Prop :=
  ∃ (k : Nat) (b : ByteArray), k ≤ l.length ∧ i = .int .i64 k ∧ v = .string b ∧ boErr ⟨#[]⟩ l = boErr b (l.drop k) ∧ G w wr none
theorem boRow {W w : World} {bb bo n cap : Nat} {l : List Bo} (h : RdR W 6 boC (.slice (some ⟨bb, bo, none⟩) n cap) l) (hG : G W w none) {k : Nat} {p : Bo} (hp : l[k]? = some p) :
    ∀ j v, (boC p).toList[j]? = some v → w.cell? ((⟨bb, bo + k * 6, none⟩ : Addr).add j) = some v := fun j v hv => by
  rw [add_at]
  exact RdR.cell boC_sz h hG hp j v hv
theorem boTime {w : World} {g : Nat} {T : TypeId} {p : Bo} (h : Bk w g T (boC p)) : ∀ j v, (#[Value.int .i64 p.2.2.1, .int .i64 p.2.2.2.1] : Array Value).toList[j]? = some v → w.cell? ((⟨g, 2, none⟩ : Addr).add j) = some v := fun j v hv => by
  rw [add_at, h.cell]
  match j, hv with
  | 0, hv => exact hv
  | 1, hv => exact hv
  | n + 2, hv => simp at hv
set_option maxRecDepth 100000 in
set_option maxHeartbeats 4000000 in
theorem checkForm_c (v : Value) (l : List Bo) (w : World) (hr : RdR w 6 boC v l) (hl : BoOk l) (hn : l.length ≤ 1000) :
    Calls Tryd.prog 44 #[v] w fun e w' => e = .returned (.int .i64 (boE l)) ∧ G w w' none := by
  have HR := Lib.hid hr
  obtain ⟨a, cap, rfl, hcap, hm⟩ := RdR.form hr
  clear hr
  by_cases h30 : 500 < l.length
  · have H := Lib.hid (show boE l = 2 by simp [boE, h30])
    go_enter Tryd.func44, Tryd.ntmps44
    go_wp2_with fail
    go_ret
    exact ⟨by rw [H.out]; rfl, G.refl _ _⟩
  · have H := Lib.hid (show boE l = boErr ⟨#[]⟩ l by simp [boE, h30])
    go_enter Tryd.func44, Tryd.ntmps44
    go_wp2_with fail
    go_loopw [3, 11] (BoRel w l) (fun _ i _ => l.length - (intOf i).toNat)
    case atStart => exact ⟨0, ⟨#[]⟩, by omega, rfl, rfl, rfl, G.refl _ _⟩
    case round =>
      obtain ⟨k, b, hkl, rfl, rfl, heq, hG⟩ := hrel
      have HE := Lib.hid heq
      clear heq
      by_cases hk : k < l.length
      · obtain ⟨p, hp⟩ : ∃ p, l[k]? = some p := ⟨_, List.getElem?_eq_getElem hk⟩
        have hdrop : l.drop k = p :: l.drop (k + 1) := by rw [List.drop_eq_getElem_cons hk, ← (List.getElem?_eq_some_iff.1 hp).2]
        have hpl := hl p (List.mem_of_getElem? hp)
        obtain ⟨bb, bo, rfl, hbb, _⟩ := RdR.elem boC_sz HR.out hG hp
        have HW := Lib.hid (boRow HR.out hG hp)
        have hs1 := hpl.1
        have hs2 := hpl.2.1
        unfold Small at hs1 hs2
        have HS : Hid (boErr b (l.drop k) = if keyB p.1 = false then 5 else if keyB p.2.1 = false then 5 else if leB p.1 b = true then 7 else if boT p.2.2.1 p.2.2.2.1 p.2.2.2.2.1 p.2.2.2.2.2 = false then 1 else boErr p.1 (l.drop (k + 1))) := Lib.hid (by rw [hdrop]; rfl)
        have hB5 := Bk.new wr 92 (boC p)
        have hG5 := hG.alloc (.cells (boC p) 92)
        clear hdrop hp hpl hG
        go_wp2_with (refine wpList_load_at rfl 92 _ rfl ⟨bb, bo + k * 6, none⟩ rfl #[.string p.1, .string p.2.1, .int .i64 p.2.2.1, .int .i64 p.2.2.2.1, .int .i64 p.2.2.2.2.1, .int .i64 p.2.2.2.2.2] _ HW.out Tryd.underlying92 rfl (bo_info p) ?_)
        have hB5 : Bk (wr.alloc (.cells #[.string p.1, .string p.2.1, .int .i64 p.2.2.1, .int .i64 p.2.2.2.1, .int .i64 p.2.2.2.2.1, .int .i64 p.2.2.2.2.2] 92)) wr.heap.size 92 (boC p) := hB5
        have hG5 : G w (wr.alloc (.cells #[.string p.1, .string p.2.1, .int .i64 p.2.2.1, .int .i64 p.2.2.2.1, .int .i64 p.2.2.2.2.1, .int .i64 p.2.2.2.2.2] 92)) none := hG5
        have hg5 := hB5.lt
        generalize wr.alloc (.cells #[.string p.1, .string p.2.1, .int .i64 p.2.2.1, .int .i64 p.2.2.2.1, .int .i64 p.2.2.2.2.1, .int .i64 p.2.2.2.2.2] 92) = w5 at hB5 hG5 hg5 ⊢
        generalize wr.heap.size = g at hB5 hg5 ⊢
        refine (isKey_c _ _ hs1).mono ?_; rintro e w1 ⟨rfl, rfl⟩
        have c0 : World.cell? w5 ⟨g, 0, none⟩ = some (.string p.1) := hB5.cell 0
        have c1 : World.cell? w5 ⟨g, 1, none⟩ = some (.string p.2.1) := hB5.cell 1
        have c2 : World.cell? w5 ⟨g, 2, none⟩ = some (.int .i64 p.2.2.1) := hB5.cell 2
        have c3 : World.cell? w5 ⟨g, 3, none⟩ = some (.int .i64 p.2.2.2.1) := hB5.cell 3
        have c4 : World.cell? w5 ⟨g, 4, none⟩ = some (.int .i64 p.2.2.2.2.1) := hB5.cell 4
        have c5 : World.cell? w5 ⟨g, 5, none⟩ = some (.int .i64 p.2.2.2.2.2) := hB5.cell 5
        cases hkb : keyB p.1 with
        | false =>
          have HF : Hid (boE l = 5) := Lib.hid (by rw [H.out, HE.out, HS.out, if_pos hkb])
          clear hkb
          go_wp2_with fail
          go_ret
          exact ⟨by rw [HF.out]; rfl, hG5⟩
        | true =>
          have HK := Lib.hid hkb
          clear hkb
          go_wp2_with fail
          refine (isKey_c _ _ hs2).mono ?_; rintro e w1 ⟨rfl, rfl⟩
          cases hkb : keyB p.2.1 with
          | false =>
            have HF : Hid (boE l = 5) := Lib.hid (by rw [H.out, HE.out, HS.out, if_neg (by simp [HK.out]), if_pos hkb])
            clear hkb
            go_wp2_with fail
            go_ret
            exact ⟨by rw [HF.out]; rfl, hG5⟩
          | true =>
            have HK2 := Lib.hid hkb
            clear hkb
            cases hle : leB p.1 b with
            | true =>
              have HF : Hid (boE l = 7) := Lib.hid (by rw [H.out, HE.out, HS.out, if_neg (by simp [HK.out]), if_neg (by simp [HK2.out]), if_pos hle])
              unfold leB at hle
              go_wp2_with fail
              go_ret
              exact ⟨by rw [HF.out]; rfl, hG5⟩
            | false =>
              have HS2 : Hid (boErr ⟨#[]⟩ l = if boT p.2.2.1 p.2.2.2.1 p.2.2.2.2.1 p.2.2.2.2.2 = false then 1 else boErr p.1 (l.drop (k + 1))) := Lib.hid (by rw [HE.out, HS.out, if_neg (by simp [HK.out]), if_neg (by simp [HK2.out]), if_neg (by simp [hle])])
              unfold leB at hle
              clear HS HE
              have HT := Lib.hid (boTime hB5)
              go_wp2_with (refine wpList_load_at rfl 54 _ rfl ⟨g, 2, none⟩ rfl #[.int .i64 p.2.2.1, .int .i64 p.2.2.2.1] _ HT.out Tryd.underlying54 rfl (wi_info _ _) ?_)
              refine (isTime_c _ _ _).mono ?_; rintro e w2 ⟨rfl, hG2⟩
              have hB5 := hB5.quiet hG2
              have hG5 := hG5.trans hG2
              clear hG2 HT c0 c1 c2 c3 c4 c5
              have c0 : w2.cell? ⟨g, 0, none⟩ = some (.string p.1) := hB5.cell 0
              have c1 : w2.cell? ⟨g, 1, none⟩ = some (.string p.2.1) := hB5.cell 1
              have c2 : w2.cell? ⟨g, 2, none⟩ = some (.int .i64 p.2.2.1) := hB5.cell 2
              have c3 : w2.cell? ⟨g, 3, none⟩ = some (.int .i64 p.2.2.2.1) := hB5.cell 3
              have c4 : w2.cell? ⟨g, 4, none⟩ = some (.int .i64 p.2.2.2.2.1) := hB5.cell 4
              have c5 : w2.cell? ⟨g, 5, none⟩ = some (.int .i64 p.2.2.2.2.2) := hB5.cell 5
              cases ht : timB p.2.2.1 p.2.2.2.1 with
              | false =>
                have HF : Hid (boE l = 1) := Lib.hid (by rw [H.out, HS2.out, if_pos (by simp [boT, ht])])
                go_wp2_with fail
                go_ret
                exact ⟨by rw [HF.out]; rfl, hG5⟩
              | true =>
                have HTB := Lib.hid ht
                clear ht
                go_wp2_with fail
                refine (within_c _ _ _ _).mono ?_; rintro e w' ⟨rfl, rfl⟩
                cases hm1 : inB p.2.2.2.2.1 0 p.2.2.1 with
                | false =>
                  have HF : Hid (boE l = 1) := Lib.hid (by rw [H.out, HS2.out, if_pos (by simp [boT, hm1])])
                  go_wp2_with fail
                  go_ret
                  exact ⟨by rw [HF.out]; rfl, hG5⟩
                | true =>
                  have HM := Lib.hid hm1
                  clear hm1
                  go_wp2_with fail
                  refine (within_c _ _ _ _).mono ?_; rintro e w' ⟨rfl, rfl⟩
                  cases hp1 : inB p.2.2.2.2.2 0 100 with
                  | false =>
                    have HF : Hid (boE l = 1) := Lib.hid (by rw [H.out, HS2.out, if_pos (by simp [boT, hp1])])
                    go_wp2_with fail
                    go_ret
                    exact ⟨by rw [HF.out]; rfl, hG5⟩
                  | true =>
                    have HF : Hid (boErr ⟨#[]⟩ l = boErr p.1 (l.drop (k + 1))) := Lib.hid (by rw [HS2.out, if_neg (by simp [boT, HTB.out, HM.out, hp1])])
                    clear hp1
                    go_wp2_with fail
                    go_roundw
                    case rel => exact ⟨k + 1, p.1, by omega, by go_num, rfl, HF.out, hG5⟩
                    case measure => simp [intOf]; omega
      · obtain rfl : k = l.length := by omega
        have HE2 : Hid (boE l = 0) := Lib.hid (by rw [H.out, HE.out, List.drop_length]; rfl)
        go_wp2_with fail
        go_ret
        exact ⟨by rw [HE2.out]; rfl, hG⟩
end Go.Proofs.YtgddchdpeflmoaaDoor
