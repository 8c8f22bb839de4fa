/- The reference's ClassesFault. -/
import Derived.Test.YtjjgohainbjecaaDoorUpr
import Derived.Deep.RegionHeld3
namespace Go.Proofs.YtjjgohainbjecaaDoor
open Go.RowKit

def RckRel (w : World) (l : List Cla) (v i : Value) (wr : World) : Prop :=
  ∃ (k : Nat) (b : ByteArray), k ≤ l.length ∧ i = .int .i64 k ∧ v = .string b ∧ ckErr ⟨#[]⟩ l = ckErr b (l.drop k) ∧ G w wr none
def R1Rel (w : World) (l : List Cla) (i : Value) (wr : World) : Prop :=
  ∃ k : Nat, k ≤ l.length ∧ i = .int .i64 k ∧ (l.take k).any (badKnown (upS l)) = false ∧ G w wr none
def inUps (l : List Cla) (p : Cla) : Bool := hasK (upsK (upS l) (l.length + 1) p.1) p.1
def R2Rel (w : World) (l : List Cla) (i : Value) (wr : World) : Prop :=
  ∃ k : Nat, k ≤ l.length ∧ i = .int .i64 k ∧ (l.take k).any (inUps l) = false ∧ G w wr none
theorem clErr_loop {l : List Cla} (h30 : l.length ≤ 30) (h0 : ckErr ⟨#[]⟩ l = 0) (hb : l.any (badKnown (upS l)) = false) : clErr l = if l.any (inUps l) = true then 14 else 0 := by
  rw [clErr, if_neg (by omega), if_pos h0, clTail, if_neg (by simp [hb]), loop_eq h0]
  rfl
set_option maxRecDepth 100000 in
set_option maxHeartbeats 8000000 in
theorem classesFault_c (v : Value) (l : List Cla) (w : World) (hr : Rd w 2 v l.length (clL l)) (hl : ClsOk l) (hn : l.length ≤ 100) :
    Calls Tryd.prog 8 #[v] w fun e w' => e = .returned (.int .i64 (clErr l)) ∧ G w w' none := by
  have HV := Lib.hid hr
  obtain ⟨a, cap, rfl, hcap, hm, hlen, hnil, hcell⟩ := hr
  by_cases h30 : 30 < l.length
  · have H := Lib.hid (show clErr l = 2 by simp [clErr, h30])
    go_enter Tryd.func8, Tryd.ntmps8
    go_wp2_with fail
    go_ret
    exact ⟨by rw [H.out]; rfl, G.refl _ _⟩
  · have H := Lib.hid (show clErr l = if ckErr ⟨#[]⟩ l = 0 then clTail (upS l) (upC 0 eF l) l else ckErr ⟨#[]⟩ l by simp [clErr, h30])
    have HC := Lib.hid hcell
    have HNIL := Lib.hid hnil
    clear hcell hnil
    go_enter Tryd.func8, Tryd.ntmps8
    go_wp2_with fail
    go_loopw [3, 15] (RckRel w l) (fun _ i _ => l.length - (intOf i).toNat)
    case atStart => exact ⟨0, ⟨#[]⟩, by omega, rfl, rfl, rfl, G.refl _ _⟩
    case round =>
      obtain ⟨k, b, hkl, rfl, rfl, heq, hG⟩ := hrel
      have HE := Lib.hid heq
      clear heq
      by_cases hk : k < l.length
      · obtain ⟨p, hp⟩ : ∃ p, l[k]? = some p := ⟨_, List.getElem?_eq_getElem hk⟩
        have hdrop : l.drop k = p :: l.drop (k + 1) := by rw [List.drop_eq_getElem_cons hk, ← (List.getElem?_eq_some_iff.1 hp).2]
        have hpl := hl p (List.mem_of_getElem? hp)
        cases a with
        | none => have := (HNIL.out rfl).1; omega
        | some ad =>
          obtain ⟨bb, bo, bs⟩ := ad
          obtain ⟨e1, e2, e3⟩ := HC.out _ rfl
          dsimp only at e1 e2 e3
          subst e1
          have hrow : ∀ j v, (clC p).toList[j]? = some v → wr.cell? ((⟨bb, bo + k * 2, none⟩ : Addr).add j) = some v := by
            intro j v hv
            rw [add_at]
            have h1 := e3 (k * 2 + j) v (clL_at l k p hp j v hv)
            rw [← Nat.add_assoc] at h1
            exact ((gcell hG).1 bb _ e2).trans h1
          have HR := Lib.hid hrow
          clear hrow e3
          have hs1 := hpl.1
          have hs2 := hpl.2
          unfold Small at hs1 hs2
          have HS : Hid (ckErr b (l.drop k) = if keyB p.1 = false then 5 else if leB p.1 b = true then 7 else if badUp p.2 = true then 5 else ckErr p.1 (l.drop (k + 1))) := Lib.hid (by rw [hdrop]; rfl)
          clear hdrop
          go_wp2_with (refine wpList_load_at rfl 48 _ rfl ⟨bb, bo + k * 2, none⟩ rfl #[.string p.1, .string p.2] _ HR.out Tryd.underlying48 rfl (cl_info p) ?_)
          refine (rkey_c _ _ hs1).mono ?_; rintro e w1 ⟨rfl, hG1⟩
          have hB5 := (Bk.new wr 48 (clC p)).quiet hG1
          have hc0 := hB5.cell 0
          have hc1 := hB5.cell 1
          rw [show (clC p)[0]? = some (.string p.1) from rfl] at hc0
          rw [show (clC p)[1]? = some (.string p.2) from rfl] at hc1
          have hG01 := (hG.alloc (.cells (clC p) 48)).trans hG1
          clear hG hG1 HR
          cases hkb : keyB p.1 with
          | false =>
            have HF : Hid (clErr l = 5) := Lib.hid (by
              have e : ckErr ⟨#[]⟩ l = 5 := by rw [HE.out, HS.out, if_pos hkb]
              rw [H.out, if_neg (by omega)]; exact e)
            clear hkb
            go_wp2_with fail
            go_ret
            exact ⟨by rw [HF.out]; rfl, hG01⟩
          | true =>
            cases hle : leB p.1 b with
            | true =>
              have HF : Hid (clErr l = 7) := Lib.hid (by
                have e : ckErr ⟨#[]⟩ l = 7 := by rw [HE.out, HS.out, if_neg (by simp [hkb]), if_pos hle]
                rw [H.out, if_neg (by omega)]; exact e)
              unfold leB at hle
              clear hkb
              go_wp2_with fail
              go_ret
              exact ⟨by rw [HF.out]; rfl, hG01⟩
            | false =>
              have HL := Lib.hid hle
              have HK := Lib.hid hkb
              unfold leB at hle
              clear hkb
              have hbu : badUp p.2 = (!p.2.toList.isEmpty && !keyB p.2) := rfl
              cases hem : p.2.toList.isEmpty with
              | true =>
                have HF : Hid (ckErr ⟨#[]⟩ l = ckErr p.1 (l.drop (k + 1))) := Lib.hid (by rw [HE.out, HS.out, if_neg (by simp [HK.out]), if_neg (by simp [HL.out]), if_neg (by simp [hbu, hem])])
                clear hbu
                go_wp2_with fail
                go_roundw
                case rel => exact ⟨k + 1, p.1, by omega, by go_num, rfl, HF.out, hG01⟩
                case measure => simp [intOf]; omega
              | false =>
                cases hk2 : keyB p.2 with
                | false =>
                  have HF : Hid (clErr l = 5) := Lib.hid (by
                    have e : ckErr ⟨#[]⟩ l = 5 := by rw [HE.out, HS.out, if_neg (by simp [HK.out]), if_neg (by simp [HL.out]), if_pos (by simp [hbu, hem, hk2])]
                    rw [H.out, if_neg (by omega)]; exact e)
                  have HK2 := Lib.hid hk2
                  clear hbu hk2
                  go_wp2_with fail
                  refine (rkey_c _ _ hs2).mono ?_; rintro e w2 ⟨rfl, hG2⟩
                  rw [HK2.out]
                  go_wp2_with fail
                  go_ret
                  exact ⟨by rw [HF.out]; rfl, hG01.trans hG2⟩
                | true =>
                  have HF : Hid (ckErr ⟨#[]⟩ l = ckErr p.1 (l.drop (k + 1))) := Lib.hid (by rw [HE.out, HS.out, if_neg (by simp [HK.out]), if_neg (by simp [HL.out]), if_neg (by simp [hbu, hk2])])
                  have HK2 := Lib.hid hk2
                  clear hbu hk2
                  go_wp2_with fail
                  refine (rkey_c _ _ hs2).mono ?_; rintro e w2 ⟨rfl, hG2⟩
                  rw [HK2.out]
                  have hc0 := (hB5.quiet hG2).cell 0
                  rw [show (clC p)[0]? = some (.string p.1) from rfl] at hc0
                  go_wp2_with fail
                  go_roundw
                  case rel => exact ⟨k + 1, p.1, by omega, by go_num, rfl, HF.out, hG01.trans hG2⟩
                  case measure => simp [intOf]; omega
      · obtain rfl : k = l.length := by omega
        have hck : ckErr ⟨#[]⟩ l = 0 := by rw [HE.out, List.drop_length]; rfl
        have HRI := Lib.hid (ck_rise _ _ hck).1
        have HL := Lib.hid (clErr_loop (l := l) (by omega) hck)
        have HBK := Lib.hid (fun hb : l.any (badKnown (upS l)) = true => show clErr l = 8 by rw [H.out, if_pos hck, clTail, if_pos hb])
        clear hk hkl hck HE
        go_wp2_with fail
        go_loopw [44] (R1Rel w l) (fun i _ => l.length - (intOf i).toNat)
        case atStart => exact ⟨0, by omega, rfl, rfl, hG⟩
        case round =>
          clear hG
          obtain ⟨k, hkl, rfl, hany, hG⟩ := hrel
          have HA := Lib.hid hany
          clear hany
          by_cases hk : k < l.length
          · obtain ⟨p, hp⟩ : ∃ p, l[k]? = some p := ⟨_, List.getElem?_eq_getElem hk⟩
            cases a with
            | none => have := (HNIL.out rfl).1; omega
            | some ad =>
              obtain ⟨bb, bo, bs⟩ := ad
              obtain ⟨e1, e2, e3⟩ := HC.out _ rfl
              dsimp only at e1 e2 e3
              subst e1
              have hrow : ∀ j v, (clC p).toList[j]? = some v → wr.cell? ((⟨bb, bo + k * 2, none⟩ : Addr).add j) = some v := by
                intro j v hv
                rw [add_at]
                have h1 := e3 (k * 2 + j) v (clL_at l k p hp j v hv)
                rw [← Nat.add_assoc] at h1
                exact ((gcell hG).1 bb _ e2).trans h1
              have HR := Lib.hid hrow
              have HVr := Lib.hid (HV.out.quiet (hG.alloc (.cells (clC p) 48)))
              clear hrow e3
              have HP := Lib.hid hp
              clear hp
              have hbk : badKnown (upS l) p = (!p.2.toList.isEmpty && !(upS l p.2).isSome) := rfl
              have HB := Lib.hid hbk
              clear hbk
              cases hem : p.2.toList.isEmpty with
              | true =>
                have HN : Hid ((l.take (k + 1)).any (badKnown (upS l)) = false) := Lib.hid (by rw [take_snoc' l k p HP.out, List.any_append, HA.out, List.any_cons, HB.out, hem]; rfl)
                go_wp2_with (refine wpList_load_at rfl 48 _ rfl ⟨bb, bo + k * 2, none⟩ rfl #[.string p.1, .string p.2] _ HR.out Tryd.underlying48 rfl (cl_info p) ?_)
                go_roundw
                case rel => exact ⟨k + 1, by omega, by go_num, HN.out, hG.alloc _⟩
                case measure => simp [intOf]; omega
              | false =>
                have hcn := clAt_neg l p.2
                go_wp2_with (refine wpList_load_at rfl 48 _ rfl ⟨bb, bo + k * 2, none⟩ rfl #[.string p.1, .string p.2] _ HR.out Tryd.underlying48 rfl (cl_info p) ?_)
                refine (classAt_c _ l p.2 _ HVr.out (by omega)).mono ?_; rintro e w1 ⟨rfl, hG1⟩
                have hG01 := (hG.alloc (.cells (clC p) 48)).trans hG1
                clear hG hG1
                cases hso : (upS l p.2).isSome with
                | true =>
                  have HN : Hid ((l.take (k + 1)).any (badKnown (upS l)) = false) := Lib.hid (by rw [take_snoc' l k p HP.out, List.any_append, HA.out, List.any_cons, HB.out, hso, hem]; rfl)
                  have hlt : 0 ≤ clAt l p.2 := by rw [hso] at hcn; simpa using hcn
                  clear hcn
                  go_wp2_with fail
                  go_roundw
                  case rel => exact ⟨k + 1, by omega, by go_num, HN.out, hG01⟩
                  case measure => simp [intOf]; omega
                | false =>
                  have HN : Hid (clErr l = 8) := Lib.hid (HBK.out (any_of_at _ l k p HP.out (by rw [HB.out, hso, hem]; rfl)))
                  have hlt : clAt l p.2 < 0 := by rw [hso] at hcn; simpa using hcn
                  clear hcn
                  go_wp2_with fail
                  go_ret
                  exact ⟨ret_int HN.out.symm, hG01⟩
          · obtain rfl : k = l.length := by omega
            rw [List.take_length] at HA
            have HH := Lib.hid (HL.out HA.out)
            clear hk hkl HBK
            go_wp2_with fail
            go_loopw [61] (R2Rel w l) (fun i _ => l.length - (intOf i).toNat)
            case atStart => exact ⟨0, by omega, rfl, rfl, hG⟩
            case round =>
              clear hG HA
              obtain ⟨k, hkl, rfl, hany, hG⟩ := hrel
              have HA := Lib.hid hany
              clear hany
              by_cases hk : k < l.length
              · obtain ⟨p, hp⟩ : ∃ p, l[k]? = some p := ⟨_, List.getElem?_eq_getElem hk⟩
                cases a with
                | none => have := (HNIL.out rfl).1; omega
                | some ad =>
                  obtain ⟨bb, bo, bs⟩ := ad
                  obtain ⟨e1, e2, e3⟩ := HC.out _ rfl
                  dsimp only at e1 e2 e3
                  subst e1
                  have hrow : ∀ j v, (clC p).toList[j]? = some v → wr.cell? ((⟨bb, bo + k * 2, none⟩ : Addr).add j) = some v := by
                    intro j v hv
                    rw [add_at]
                    have h1 := e3 (k * 2 + j) v (clL_at l k p hp j v hv)
                    rw [← Nat.add_assoc] at h1
                    exact ((gcell hG).1 bb _ e2).trans h1
                  have HR := Lib.hid hrow
                  clear hrow e3
                  have HP := Lib.hid hp
                  clear hp
                  go_wp2_with (refine wpList_load_at rfl 48 _ rfl ⟨bb, bo + k * 2, none⟩ rfl #[.string p.1, .string p.2] _ HR.out Tryd.underlying48 rfl (cl_info p) ?_)
                  have hB3 := Bk.new wr 48 #[.string p.1, .string p.2]
                  have hG3 := hG.alloc (.cells #[.string p.1, .string p.2] 48)
                  generalize wr.alloc (.cells #[.string p.1, .string p.2] 48) = w3 at hB3 hG3 ⊢
                  have hgl := hB3.lt
                  generalize wr.heap.size = g at hB3 hgl ⊢
                  have hcd : w3.drew.cell? ⟨g, 0, none⟩ = some (.string p.1) := (hB3.quiet ((G.refl w3 none).drew)).cell 0
                  have hGd := hG3.drew
                  have hul := upsK_len (upS l) (l.length + 1) p.1
                  clear hG
                  go_region_held3 (fun w' => w'.cell? ⟨g, 0, none⟩ = some (.string p.1)) (first | assumption | go_keep) (first | (go_at_call 14; refine (ups_c _ l p.1 _ (HV.out.quiet hGd) hn HRI.out).mono ?_; rintro e w4 ⟨y, rfl, hy, hG4⟩; have hG04 := hGd.trans hG4; have hcd4 : w4.cell? ⟨g, 0, none⟩ = some (.string p.1) := (World.cell?_of_block (w := w3.drew) (hG4.block g hgl (by simp))).trans hcd) | (go_at_call 25; refine (sContains_c y _ p.1 _ (OwnSs.rd hy) (by omega)).mono ?_; rintro e w' ⟨rfl, rfl⟩))
                  have HIN : Hid (inUps l p = hasK (upsK (upS l) (l.length + 1) p.1) p.1) := Lib.hid rfl
                  rw [← HIN.out]
                  cases hcb : inUps l p with
                  | true =>
                    have HN : Hid (clErr l = 14) := Lib.hid (by rw [HH.out, if_pos (any_of_at _ l k p HP.out hcb)])
                    clear hcb
                    go_wp2_with fail
                    go_ret
                    exact ⟨ret_int HN.out.symm, hG04⟩
                  | false =>
                    have HN : Hid ((l.take (k + 1)).any (inUps l) = false) := Lib.hid (by rw [take_snoc' l k p HP.out, List.any_append, HA.out, List.any_cons, hcb]; rfl)
                    clear hcb
                    go_wp2_with fail
                    go_roundw
                    case rel => exact ⟨k + 1, by omega, by go_num, HN.out, hG04⟩
                    case measure => simp [intOf]; omega
              · obtain rfl : k = l.length := by omega
                rw [List.take_length] at HA
                have HN : Hid (clErr l = 0) := Lib.hid (by rw [HH.out, if_neg (by simp [HA.out])])
                go_wp2_with fail
                go_ret
                exact ⟨ret_int HN.out.symm, hG⟩
end Go.Proofs.YtjjgohainbjecaaDoor
