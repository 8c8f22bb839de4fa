/- Tln, Tck, Mpk, Prk, Dbl, Dob, Gtl, Tir, Can, Low, Bkd, Lie, Er2, Cbl, Lay. -/
import Derived.Test.YtamoefnpfkcigaaDoorZb3
import Derived.Laws.OwnMore
import Derived.Test.YtamoefnpfkcigaaDoorZb2
import Derived.Test.YtamoefnpfkcigaaDoorZb1
import Derived.DeepKeys4
import Derived.Test.YtamoefnpfkcigaaDoorProg
import Derived.Laws.ResultCell
import Derived.Deep.MidRow
import Derived.Deep.RegionHeld3
import Derived.StillTailTactics
import Derived.Laws.StructEq
import Derived.Test.YtamoefnpfkcigaaDoorRows
import Derived.Test.YtamoefnpfkcigaaDoorTie
import Derived.Test.YtamoefnpfkcigaaDoorCards
import Derived.LaidMore
import Derived.ChangeSame
import Derived.ProofKit
import Derived.OpenShut
import Derived.PinnedBridge
import Derived.Deep.DeepHandedRow
import Derived.Deep.DeepWitnessRowRef
/- Lines of tolls: toll.Lines, the reference's TollLines. Written by gentln.py. -/
namespace Go.Proofs.YtamoefnpfkcigaaDoor
open Go.RowKit

def tlS (key : ByteArray) (l : List Cg) : Int := (l.map fun x => if x.1 = key then x.2.2.2 else 0).sum
def CgB (l : List Cg) : Prop := ∀ x ∈ l, 0 ≤ x.2.2.2 ∧ x.2.2.2 ≤ 1000000
theorem cgErr_b (b : Int) (l : List Cg) (h : cgErr b l = 0) : CgB l := by
  induction l generalizing b with
  | nil => exact fun p hp => by cases hp
  | cons p r ih =>
    unfold cgErr at h
    split at h
    · omega
    · split at h
      · omega
      · split at h
        · omega
        · split at h
          · omega
          · split at h
            · omega
            · rename_i ht
              have i3 := ih _ h
              intro q hq
              rcases List.mem_cons.1 hq with rfl | hq
              · unfold inB at ht
                simp at ht
                omega
              · exact i3 q hq
theorem cgE_ok {l : List Cg} (h : cgE l = 0) : CgB l ∧ l.length ≤ 1000 := by
  unfold cgE at h
  split at h
  · omega
  · exact ⟨cgErr_b _ _ h, by omega⟩
theorem tlS_bnd (key : ByteArray) {l : List Cg} (hb : CgB l) : 0 ≤ tlS key l ∧ tlS key l ≤ 1000000 * l.length := by
  induction l with
  | nil => simp [tlS]
  | cons s r ih =>
    have h1 := ih (fun x hx => hb x (List.mem_cons_of_mem _ hx))
    have h2 := hb s (List.mem_cons_self ..)
    have h4 : tlS key (s :: r) = (if s.1 = key then s.2.2.2 else 0) + tlS key r := by simp [tlS]
    rw [h4, List.length_cons]
    split <;> omega
theorem tlS_take (key : ByteArray) {l : List Cg} {k : Nat} {p : Cg} (h : l[k]? = some p) : tlS key (l.take (k + 1)) = tlS key (l.take k) + (if p.1 = key then p.2.2.2 else 0) := by
  unfold tlS
  rw [List.take_add_one, h, List.map_append, List.sum_append]
  simp
def tlL (fee sum : Int) : List Li := if sum = 0 then [] else if 0 < fee then [(6, ⟨#[116, 111, 108, 108]⟩, sum), (6, ⟨#[116, 111, 108, 108, 102, 101, 101]⟩, fee)] else [(6, ⟨#[116, 111, 108, 108]⟩, sum)]
def lnE (x : Tr) (l : List Cg) (key : ByteArray) : Int := if trE x = 0 then (if cgE l = 0 then (if keyB key = true then 0 else 5) else cgE l) else trE x
def lnL (x : Tr) (l : List Cg) (key : ByteArray) : List Li := if lnE x l key = 0 then tlL x.2.2 (tlS key l) else []
theorem tr_info (x : Tr) : (Tryd.prog.info? 51).map (·.size) = some (trC x).size := (by kernel_rfl : (Tryd.prog.info? 51).map (·.size) = some 3)
def TlRel (w : World) (l : List Cg) (key : ByteArray) (s i : Value) (wr : World) : Prop :=
  ∃ k : Nat, k ≤ l.length ∧ i = .int .i64 k ∧ s = .int .i64 (tlS key (l.take k)) ∧ G w wr none
set_option maxRecDepth 100000 in
set_option maxHeartbeats 8000000 in
theorem lines_c (x : Tr) (v : Value) (l : List Cg) (key : ByteArray) (w : World) (hr : RdR w 4 cgC v l) (hl : CgOk l) (hn : l.length ≤ 1000000) (hkey : Small key) :
    Calls Tryd.prog 31 #[.agg (trC x), v, .string key] w fun e w' => ∃ v', e = .returned (.tuple #[v', .int .i64 (lnE x l key)]) ∧ RdR w' 3 liC v' (lnL x l key) ∧ G w w' none := by
  obtain ⟨a, cap, rfl, hcap, hm⟩ := RdR.form hr
  obtain ⟨E, hE⟩ : ∃ E, lnE x l key = E := ⟨_, rfl⟩
  obtain ⟨XL, hXL⟩ : ∃ XL, lnL x l key = XL := ⟨_, rfl⟩
  have HE : Hid (E = if trE x = 0 then (if cgE l = 0 then (if keyB key = true then 0 else 5) else cgE l) else trE x) := Lib.hid (by rw [← hE]; rfl)
  have HXL0 : Hid (XL = if E = 0 then tlL x.2.2 (tlS key l) else []) := Lib.hid (by rw [← hXL, ← hE]; rfl)
  rw [hE, hXL]
  clear hE hXL
  unfold Small at hkey
  have CT := Lib.hid (fun w => tollRules_c x w)
  obtain ⟨d, q, f⟩ := x
  show Calls Tryd.prog 31 #[.agg #[.int .i64 d, .int .i64 q, .int .i64 f], .slice a l.length cap, .string key] w _
  have hB : Bk (w.alloc (.cells #[.int .i64 d, .int .i64 q, .int .i64 f] 51)) w.heap.size 51 #[.int .i64 d, .int .i64 q, .int .i64 f] := Bk.new _ _ _
  have hG := (G.refl w none).alloc (.cells #[.int .i64 d, .int .i64 q, .int .i64 f] 51)
  go_enter Tryd.func31, Tryd.ntmps31
  go_upto_region 1 with fail
  generalize w.alloc (.cells #[.int .i64 d, .int .i64 q, .int .i64 f] 51) = w1 at hB hG ⊢
  generalize w.heap.size = g at hB ⊢
  go_wp2_with (refine wpList_load_row rfl 51 _ rfl g rfl 51 #[.int .i64 d, .int .i64 q, .int .i64 f] (0, 0) _ hB Tryd.underlying51 rfl (tr_info (d, q, f)) ?_)
  refine (CT.out _).mono ?_; rintro e w2 ⟨rfl, hh⟩
  replace hr := (hr.quiet hG).quiet hh
  replace hB := hB.quiet hh
  replace hG := hG.trans hh
  clear hh
  generalize trE (d, q, f) = E1 at HE ⊢
  by_cases e1 : E1 = 0
  · subst e1
    have HE2 : Hid (E = if cgE l = 0 then (if keyB key = true then 0 else 5) else cgE l) := Lib.hid (by rw [HE.out, if_pos rfl])
    clear HE
    go_wp2_with fail
    refine (checkCharges_c _ l _ hr hl hn).mono ?_; rintro e w3 ⟨rfl, hh⟩
    replace hr := hr.quiet hh
    replace hB := hB.quiet hh
    replace hG := hG.trans hh
    clear hh
    obtain ⟨E2, hE2⟩ : ∃ E2, cgE l = E2 := ⟨_, rfl⟩
    have HC := Lib.hid hE2
    rw [hE2] at HE2 ⊢
    clear hE2
    by_cases e2 : E2 = 0
    · subst e2
      obtain ⟨hcb, hl1⟩ := cgE_ok HC.out
      have HCB := Lib.hid hcb
      have HR := Lib.hid hr
      clear hcb hr HC
      go_wp2_with fail
      refine (isKey_c _ _ hkey).mono ?_; rintro e w' ⟨rfl, rfl⟩
      cases hkb : keyB key with
      | true =>
        obtain rfl : E = 0 := by rw [HE2.out]; simp [hkb]
        have HXL : Hid (XL = tlL f (tlS key l)) := Lib.hid (by rw [HXL0.out, if_pos rfl])
        have hG0 := hG
        clear hkb HE2 HXL0 hG
        go_wp2_with fail
        go_loopw [10, 29] (TlRel w3 l key) (fun _ i _ => l.length - (intOf i).toNat)
        case atStart => exact ⟨0, by omega, rfl, rfl, G.refl _ _⟩
        case round =>
          obtain ⟨k, hkl, rfl, rfl, hGr⟩ := hrel
          by_cases hk : k < l.length
          · obtain ⟨⟨h, y, n, c⟩, hp⟩ : ∃ p, l[k]? = some p := ⟨_, List.getElem?_eq_getElem hk⟩
            obtain ⟨bb, bo, rfl, hbb, _⟩ := RdR.elem cgC_sz HR.out hGr hp
            have HW := Lib.hid (cgRow HR.out hGr hp)
            have hcb := HCB.out _ (List.mem_of_getElem? hp)
            dsimp only at hcb
            obtain ⟨c0, c1⟩ := hcb
            have HT := Lib.hid (tlS_take key hp)
            have hbd := tlS_bnd key (l := l.take k) (fun x hx => HCB.out x (List.mem_of_mem_take hx))
            have htl : (l.take k).length ≤ 1000 := by rw [List.length_take]; omega
            obtain ⟨S0, hS0⟩ : ∃ S0, tlS key (l.take k) = S0 := ⟨_, rfl⟩
            rw [hS0] at HT hbd ⊢
            clear hS0
            have HK := Lib.hid hk
            have hB5 : Bk (wr.alloc (.cells #[.string h, .string y, .int .i64 n, .int .i64 c] 108)) wr.heap.size 108 #[.string h, .string y, .int .i64 n, .int .i64 c] := Bk.new wr 108 _
            have hG5 := hGr.alloc (.cells #[.string h, .string y, .int .i64 n, .int .i64 c] 108)
            clear hp hGr
            go_upto_region 13 with (refine wpList_load_at rfl 108 _ rfl ⟨bb, bo + k * 4, none⟩ rfl #[.string h, .string y, .int .i64 n, .int .i64 c] _ HW.out Tryd.underlying108 rfl (cg_info (h, y, n, c)) ?_)
            clear HW
            generalize wr.alloc (.cells #[.string h, .string y, .int .i64 n, .int .i64 c] 108) = w5 at hB5 hG5 ⊢
            generalize wr.heap.size = g5 at hB5 ⊢
            have c0v : w5.cell? ⟨g5, 0, none⟩ = some (.string h) := hB5.cell 0
            have c3v : w5.cell? ⟨g5, 3, none⟩ = some (.int .i64 c) := hB5.cell 3
            by_cases hke : h = key
            · subst hke
              have hwr : IntKind.i64.wrap (S0 + c) = S0 + c := by rw [IntKind.wrap_i64]; omega
              go_wp2_with fail
              go_roundw
              case rel => exact ⟨k + 1, (by have := HK.out; omega), by go_num, (by rw [HT.out, if_pos rfl]), hG5⟩
              case measure => have := HK.out; simp [intOf]; omega
            · have hks : (h.toList == key.toList) = false := by
                cases hq : h.toList == key.toList with
                | false => rfl
                | true => exact absurd (eqB_iff.1 hq) hke
              go_wp2_with fail
              go_roundw
              case rel => exact ⟨k + 1, (by have := HK.out; omega), by go_num, (by rw [HT.out, if_neg hke, Int.add_zero]), hG5⟩
              case measure => have := HK.out; simp [intOf]; omega
          · obtain rfl : k = l.length := by omega
            rw [List.take_length]
            have hbd := tlS_bnd key HCB.out
            obtain ⟨SS, hSS⟩ : ∃ SS, tlS key l = SS := ⟨_, rfl⟩
            rw [hSS] at hbd HXL ⊢
            clear hSS
            obtain ⟨sb0, sb1⟩ := hbd
            have sb2 : SS ≤ 1000000000 := by omega
            by_cases s0 : SS = 0
            · subst s0
              obtain rfl : XL = [] := by rw [HXL.out]; rfl
              go_wp2_with fail
              go_ret2
              exact ⟨_, rfl, RdR.nil _ _ _, hG0.trans hGr⟩
            · have sb : ¬ 1000000000 < SS := by omega
              have hb : (wr.alloc (.cells #[.int .i64 6, .string ⟨#[116, 111, 108, 108]⟩, .int .i64 SS] 72)).ownsRow wr.heap.size 72 3 (.slice (some ⟨wr.heap.size, 0, none⟩) 1 1) 1 #[.int .i64 6, .string ⟨#[116, 111, 108, 108]⟩, .int .i64 SS].toList := World.ownsRow_lit wr #[.int .i64 6, .string ⟨#[116, 111, 108, 108]⟩, .int .i64 SS] 1 (Nat.le_refl _) (by show 1 ≤ maxLen; decide) rfl
              have hown1 : OwnLi (wr.alloc (.cells #[.int .i64 6, .string ⟨#[116, 111, 108, 108]⟩, .int .i64 SS] 72)) wr.heap.size (.slice (some ⟨wr.heap.size, 0, none⟩) 1 1) [(6, ⟨#[116, 111, 108, 108]⟩, SS)] := hb
              have hG1 := (hG0.trans hGr).alloc (.cells #[.int .i64 6, .string ⟨#[116, 111, 108, 108]⟩, .int .i64 SS] 72)
              have hB1 := (hB.quiet hGr).alloc (.cells #[.int .i64 6, .string ⟨#[116, 111, 108, 108]⟩, .int .i64 SS] 72)
              have hgw := (hG0.trans hGr).size
              clear hb
              go_upto_region 21 with fail
              generalize wr.alloc (.cells #[.int .i64 6, .string ⟨#[116, 111, 108, 108]⟩, .int .i64 SS] 72) = x1 at hown1 hG1 hB1 ⊢
              generalize wr.heap.size = g1 at hown1 hgw ⊢
              have c2 : x1.cell? ⟨g, 2, none⟩ = some (.int .i64 f) := hB1.cell 2
              by_cases f0 : 0 < f
              · obtain rfl : XL = [(6, ⟨#[116, 111, 108, 108]⟩, SS), (6, ⟨#[116, 111, 108, 108, 102, 101, 101]⟩, f)] := by rw [HXL.out]; unfold tlL; rw [if_neg s0, if_pos f0]
                have hownA := OwnX.alloc hown1 (.cells #[.int .i64 6, .string ⟨#[116, 111, 108, 108, 102, 101, 101]⟩, .int .i64 f] 72)
                have hob := OwnX.low hown1
                have hsz := hG1.size
                have hgx : g1 < x1.heap.size := (World.ownsRow.lt hown1 g1 rfl).2
                go_wp2_with (at_builtin; refine wpList_plain rfl fun K' hK' => wp_append_x li_rowOk _ _ rfl g1 (.slice (some ⟨g1, 0, none⟩) 1 1) [(6, ⟨#[116, 111, 108, 108]⟩, SS)] rfl hownA x1.heap.size (6, ⟨#[116, 111, 108, 108, 102, 101, 101]⟩, f) rfl (Bk.new x1 _ _) (by show 1 ≤ 1000; decide) (by simp; omega) ?_; intro v8 w8 hown8 hgrow; refine hK' _ _ ?_)
                go_wp2_with fail
                go_ret2
                exact ⟨_, rfl, Rd.of_owns hown8, (hG1.alloc _).other hgrow (fun r e => .inl (Nat.le_trans hgw (hob r e)))⟩
              · obtain rfl : XL = [(6, ⟨#[116, 111, 108, 108]⟩, SS)] := by rw [HXL.out]; unfold tlL; rw [if_neg s0, if_neg f0]
                go_wp2_with fail
                go_ret2
                exact ⟨_, rfl, Rd.of_owns hown1, hG1⟩
      | false =>
        obtain rfl : E = 5 := by rw [HE2.out]; simp [hkb]
        obtain rfl : XL = [] := by rw [HXL0.out, if_neg (by decide)]
        clear hkb HE2
        go_wp2_with fail
        go_ret2
        exact ⟨_, rfl, RdR.nil _ _ _, hG⟩
    · obtain rfl : E = E2 := by rw [HE2.out, if_neg e2]
      obtain rfl : XL = [] := by rw [HXL0.out, if_neg e2]
      have hb : (E != 0) = true := bne_iff_ne.2 e2
      clear HE2 HC e2
      go_wp2_with fail
      go_ret2
      exact ⟨_, rfl, RdR.nil _ _ _, hG⟩
  · obtain rfl : E = E1 := by rw [HE.out, if_neg e1]
    obtain rfl : XL = [] := by rw [HXL0.out, if_neg e1]
    have hb : (E != 0) = true := bne_iff_ne.2 e1
    clear HE e1
    go_wp2_with fail
    go_ret2
    exact ⟨_, rfl, RdR.nil _ _ _, hG⟩
set_option maxRecDepth 100000 in
set_option maxHeartbeats 8000000 in
theorem tollLines_c (x : Tr) (v : Value) (l : List Cg) (key : ByteArray) (w : World) (hr : RdR w 4 cgC v l) (he : cgE l = 0) :
    Calls Tryd.prog 35 #[.agg (trC x), v, .string key] w fun e w' => ∃ v', e = .returned (.tuple #[v', .int .i64 0]) ∧ RdR w' 3 liC v' (tlL x.2.2 (tlS key l)) ∧ G w w' none := by
  obtain ⟨a, cap, rfl, hcap, hm⟩ := RdR.form hr
  obtain ⟨XL, hXL⟩ : ∃ XL, tlL x.2.2 (tlS key l) = XL := ⟨_, rfl⟩
  have HXL : Hid (XL = tlL x.2.2 (tlS key l)) := Lib.hid (by rw [← hXL])
  rw [hXL]
  clear hXL
  obtain ⟨hcb, hl1⟩ := cgE_ok he
  have HCB := Lib.hid hcb
  clear hcb he
  obtain ⟨d, q, f⟩ := x
  dsimp only at HXL
  show Calls Tryd.prog 35 #[.agg #[.int .i64 d, .int .i64 q, .int .i64 f], .slice a l.length cap, .string key] w _
  have hB : Bk (w.alloc (.cells #[.int .i64 d, .int .i64 q, .int .i64 f] 51)) w.heap.size 51 #[.int .i64 d, .int .i64 q, .int .i64 f] := Bk.new _ _ _
  have hG0 := (G.refl w none).alloc (.cells #[.int .i64 d, .int .i64 q, .int .i64 f] 51)
  go_enter Tryd.func35, Tryd.ntmps35
  go_upto_region 1 with fail
  generalize w.alloc (.cells #[.int .i64 d, .int .i64 q, .int .i64 f] 51) = w1 at hB hG0 ⊢
  generalize w.heap.size = g at hB ⊢
  have HR := Lib.hid (hr.quiet hG0)
  clear hr
  go_wp2_with fail
  go_loopw [8, 14] (TlRel w1 l key) (fun _ i _ => l.length - (intOf i).toNat)
  case atStart => exact ⟨0, by omega, rfl, rfl, G.refl _ _⟩
  case round =>
    obtain ⟨k, hkl, rfl, rfl, hGr⟩ := hrel
    by_cases hk : k < l.length
    · obtain ⟨⟨h, y, n, c⟩, hp⟩ : ∃ p, l[k]? = some p := ⟨_, List.getElem?_eq_getElem hk⟩
      obtain ⟨bb, bo, rfl, hbb, _⟩ := RdR.elem cgC_sz HR.out hGr hp
      have HW := Lib.hid (cgRow HR.out hGr hp)
      have hcb := HCB.out _ (List.mem_of_getElem? hp)
      dsimp only at hcb
      obtain ⟨c0, c1⟩ := hcb
      have HT := Lib.hid (tlS_take key hp)
      have hbd := tlS_bnd key (l := l.take k) (fun x hx => HCB.out x (List.mem_of_mem_take hx))
      have htl : (l.take k).length ≤ 1000 := by rw [List.length_take]; omega
      obtain ⟨S0, hS0⟩ : ∃ S0, tlS key (l.take k) = S0 := ⟨_, rfl⟩
      rw [hS0] at HT hbd ⊢
      clear hS0
      have HK := Lib.hid hk
      have hB5 : Bk (wr.alloc (.cells #[.string h, .string y, .int .i64 n, .int .i64 c] 108)) wr.heap.size 108 #[.string h, .string y, .int .i64 n, .int .i64 c] := Bk.new wr 108 _
      have hG5 := hGr.alloc (.cells #[.string h, .string y, .int .i64 n, .int .i64 c] 108)
      clear hp hGr
      go_upto_region 5 with (refine wpList_load_at rfl 108 _ rfl ⟨bb, bo + k * 4, none⟩ rfl #[.string h, .string y, .int .i64 n, .int .i64 c] _ HW.out Tryd.underlying108 rfl (cg_info (h, y, n, c)) ?_)
      clear HW
      generalize wr.alloc (.cells #[.string h, .string y, .int .i64 n, .int .i64 c] 108) = w5 at hB5 hG5 ⊢
      generalize wr.heap.size = g5 at hB5 ⊢
      have c0v : w5.cell? ⟨g5, 0, none⟩ = some (.string h) := hB5.cell 0
      have c3v : w5.cell? ⟨g5, 3, none⟩ = some (.int .i64 c) := hB5.cell 3
      obtain ⟨w6, hw6⟩ : ∃ w6, w5.drew = w6 := ⟨_, rfl⟩
      have hG6 : G w1 w6 none := by rw [← hw6]; exact hG5.drew
      have hB6 : Bk w6 g5 108 #[.string h, .string y, .int .i64 n, .int .i64 c] := by rw [← hw6]; exact hB5.quiet ((G.refl w5 none).drew)
      clear c0v c3v hB5 hG5
      have c0v : w6.cell? ⟨g5, 0, none⟩ = some (.string h) := hB6.cell 0
      have c3v : w6.cell? ⟨g5, 3, none⟩ = some (.int .i64 c) := hB6.cell 3
      by_cases hke : h = key
      · subst hke
        have hwm : IntKind.i64.wrap c = c := by rw [IntKind.wrap_i64]; omega
        have hwr : IntKind.i64.wrap (S0 + c) = S0 + c := by rw [IntKind.wrap_i64]; omega
        refine wp_region_held_drew (S := (fun w : World => w.cell? ⟨g5, 0, none⟩ = some (.string h) ∧ w.cell? ⟨g5, 3, none⟩ = some (.int .i64 c))) (by kernel_rfl) ?_ (fun hHeld => ?_)
        · exact by rw [hw6]; exact ⟨c0v, c3v⟩
        rw [hw6] at hHeld ⊢
        clear hw6
        refine wpAnyH_take (i := 0) (oi := { dst := some 18, op := Op.move (Operand.tmp 8), type := 3, pos := _, after := #[], guard := none }) (v := ?_) rfl (by kernel_rfl) (by kernel_rfl) (by kernel_rfl) (fun _ _ _ h => h) (Or.inl ⟨by rfl, ?_⟩) (by assumption) ?_
        rotate_left
        · (intro w hSw; obtain ⟨q0, q3⟩ := hSw; (go_simp <;> with_reducible rfl))
        try simp only [Act.put, List.setIfInBounds_toArray, List.set_cons_zero, List.set_cons_succ]
        refine wpAnyH_take (i := 1) (oi := { dst := some 19, op := Op.fieldAddr 108 (Operand.tmp 10) 3, type := 0, pos := _, after := #[], guard := none }) (v := ?_) rfl (by kernel_rfl) (by kernel_rfl) (by kernel_rfl) (fun _ _ _ h => h) (Or.inl ⟨by rfl, ?_⟩) (by assumption) ?_
        rotate_left
        · (intro w hSw; obtain ⟨q0, q3⟩ := hSw; (go_simp <;> with_reducible rfl))
        try simp only [Act.put, List.setIfInBounds_toArray, List.set_cons_zero, List.set_cons_succ]
        refine wpAnyH_take (i := 2) (oi := { dst := some 20, op := Op.load 3 (Operand.tmp 19), type := 3, pos := _, after := #[{ on := 1, ground := Ground.data }], guard := none }) (v := ?_) rfl (by kernel_rfl) (by kernel_rfl) (by kernel_rfl) (fun _ _ _ h => h) (Or.inl ⟨by rfl, ?_⟩) (by assumption) ?_
        rotate_left
        · (intro w hSw; obtain ⟨q0, q3⟩ := hSw; (go_simp <;> with_reducible rfl))
        try simp only [Act.put, List.setIfInBounds_toArray, List.set_cons_zero, List.set_cons_succ]
        refine wpAnyH_take (i := 3) (oi := { dst := some 21, op := Op.fieldAddr 108 (Operand.tmp 10) 0, type := 0, pos := _, after := #[], guard := none }) (v := ?_) rfl (by kernel_rfl) (by kernel_rfl) (by kernel_rfl) (fun _ _ _ h => h) (Or.inl ⟨by rfl, ?_⟩) (by assumption) ?_
        rotate_left
        · (intro w hSw; obtain ⟨q0, q3⟩ := hSw; (go_simp <;> with_reducible rfl))
        try simp only [Act.put, List.setIfInBounds_toArray, List.set_cons_zero, List.set_cons_succ]
        refine wpAnyH_take (i := 4) (oi := { dst := some 22, op := Op.load 9 (Operand.tmp 21), type := 9, pos := _, after := #[{ on := 3, ground := Ground.data }], guard := none }) (v := ?_) rfl (by kernel_rfl) (by kernel_rfl) (by kernel_rfl) (fun _ _ _ h => h) (Or.inl ⟨by rfl, ?_⟩) (by assumption) ?_
        rotate_left
        · (intro w hSw; obtain ⟨q0, q3⟩ := hSw; (go_simp <;> with_reducible rfl))
        try simp only [Act.put, List.setIfInBounds_toArray, List.set_cons_zero, List.set_cons_succ]
        refine wpAnyH_take (i := 5) (oi := { dst := some 23, op := Op.move (Operand.tmp 2), type := 9, pos := _, after := #[], guard := none }) (v := ?_) rfl (by kernel_rfl) (by kernel_rfl) (by kernel_rfl) (fun _ _ _ h => h) (Or.inl ⟨by rfl, ?_⟩) (by assumption) ?_
        rotate_left
        · (intro w hSw; obtain ⟨q0, q3⟩ := hSw; (go_simp <;> with_reducible rfl))
        try simp only [Act.put, List.setIfInBounds_toArray, List.set_cons_zero, List.set_cons_succ]
        refine wpAnyH_take (i := 6) (oi := { dst := some 24, op := Op.binOp BinOp.eql 9 (Operand.tmp 22) (Operand.tmp 23) 9, type := 4, pos := _, after := #[{ on := 4, ground := Ground.data }, { on := 5, ground := Ground.data }], guard := none }) (v := ?_) rfl (by kernel_rfl) (by kernel_rfl) (by kernel_rfl) (fun _ _ _ h => h) (Or.inl ⟨by rfl, ?_⟩) (by assumption) ?_
        rotate_left
        · (intro w hSw; obtain ⟨q0, q3⟩ := hSw; (go_simp <;> with_reducible rfl))
        try simp only [Act.put, List.setIfInBounds_toArray, List.set_cons_zero, List.set_cons_succ]
        refine wpAnyH_ready (rs := [7]) (by kernel_rfl) (by simp) ?_
        refine (AllReadyH.cons (o := { dst := some 25, op := Op.call { callee := Callee.value (Operand.func 46), args := #[Operand.tmp 24], argTypes := #[4] }, type := 3, pos := _, after := #[{ on := 6, ground := Ground.data }], guard := none }) rfl (fun K hK => ?_) AllReadyH.nil)
        go_simp
        refine (flag_c _ _).mono ?_
        rintro e w' ⟨rfl, rfl⟩
        refine hK.out _ _ ?_ (fun hHeld => ?_)
        · exact ⟨c0v, c3v⟩
        clear hK K
        try simp only [Act.put, List.setIfInBounds_toArray, List.set_cons_zero, List.set_cons_succ]
        refine wpAnyH_take (i := 8) (oi := { dst := some 26, op := Op.binOp BinOp.mul 3 (Operand.tmp 20) (Operand.tmp 25) 3, type := 3, pos := _, after := #[{ on := 2, ground := Ground.data }, { on := 7, ground := Ground.data }], guard := none }) (v := ?_) rfl (by kernel_rfl) (by kernel_rfl) (by kernel_rfl) (fun _ _ _ h => h) (Or.inl ⟨by rfl, ?_⟩) (by assumption) ?_
        rotate_left
        · (intro w hSw; obtain ⟨q0, q3⟩ := hSw; (go_simp <;> with_reducible rfl))
        try simp only [Act.put, List.setIfInBounds_toArray, List.set_cons_zero, List.set_cons_succ]
        refine wpAnyH_take (i := 9) (oi := { dst := some 27, op := Op.binOp BinOp.add 3 (Operand.tmp 18) (Operand.tmp 26) 3, type := 3, pos := _, after := #[{ on := 0, ground := Ground.data }, { on := 8, ground := Ground.data }], guard := none }) (v := ?_) rfl (by kernel_rfl) (by kernel_rfl) (by kernel_rfl) (fun _ _ _ h => h) (Or.inl ⟨by rfl, ?_⟩) (by assumption) ?_
        rotate_left
        · (intro w hSw; obtain ⟨q0, q3⟩ := hSw; (go_simp <;> with_reducible rfl))
        try simp only [Act.put, List.setIfInBounds_toArray, List.set_cons_zero, List.set_cons_succ]
        refine wpAnyH_take (i := 10) (oi := { dst := some 8, op := Op.assign (Operand.tmp 27), type := 3, pos := _, after := #[{ on := 9, ground := Ground.data }, { on := 7, ground := Ground.chain }, { on := 0, ground := Ground.phase }, { on := 1, ground := Ground.phase }, { on := 2, ground := Ground.phase }, { on := 3, ground := Ground.phase }, { on := 4, ground := Ground.phase }, { on := 5, ground := Ground.phase }, { on := 6, ground := Ground.phase }, { on := 7, ground := Ground.phase }, { on := 8, ground := Ground.phase }, { on := 9, ground := Ground.phase }], guard := none }) (v := ?_) rfl (by kernel_rfl) (by kernel_rfl) (by kernel_rfl) (fun _ _ _ h => h) (Or.inl ⟨by rfl, ?_⟩) (by assumption) ?_
        rotate_left
        · (intro w hSw; obtain ⟨q0, q3⟩ := hSw; (go_simp <;> with_reducible rfl))
        try simp only [Act.put, List.setIfInBounds_toArray, List.set_cons_zero, List.set_cons_succ]
        refine wpAnyH_done (by kernel_rfl) ?_ _
        clear hHeld
        go_wp2_with fail
        go_roundw
        case rel => exact ⟨k + 1, (by have := HK.out; omega), by go_num, (by rw [HT.out, if_pos rfl]), hG6⟩
        case measure => have := HK.out; simp [intOf]; omega
      · have hks : (h.toList == key.toList) = false := by
          cases hq : h.toList == key.toList with
          | false => rfl
          | true => exact absurd (eqB_iff.1 hq) hke
        have HW00 : Hid (IntKind.i64.wrap (S0 + IntKind.i64.wrap 0) = S0) := Lib.hid (by rw [show IntKind.i64.wrap 0 = 0 by decide, Int.add_zero, IntKind.wrap_i64]; omega)
        refine wp_region_held_drew (S := (fun w : World => w.cell? ⟨g5, 0, none⟩ = some (.string h) ∧ w.cell? ⟨g5, 3, none⟩ = some (.int .i64 c))) (by kernel_rfl) ?_ (fun hHeld => ?_)
        · exact by rw [hw6]; exact ⟨c0v, c3v⟩
        rw [hw6] at hHeld ⊢
        clear hw6
        refine wpAnyH_take (i := 0) (oi := { dst := some 18, op := Op.move (Operand.tmp 8), type := 3, pos := _, after := #[], guard := none }) (v := ?_) rfl (by kernel_rfl) (by kernel_rfl) (by kernel_rfl) (fun _ _ _ h => h) (Or.inl ⟨by rfl, ?_⟩) (by assumption) ?_
        rotate_left
        · (intro w hSw; obtain ⟨q0, q3⟩ := hSw; (go_simp <;> with_reducible rfl))
        try simp only [Act.put, List.setIfInBounds_toArray, List.set_cons_zero, List.set_cons_succ]
        refine wpAnyH_take (i := 1) (oi := { dst := some 19, op := Op.fieldAddr 108 (Operand.tmp 10) 3, type := 0, pos := _, after := #[], guard := none }) (v := ?_) rfl (by kernel_rfl) (by kernel_rfl) (by kernel_rfl) (fun _ _ _ h => h) (Or.inl ⟨by rfl, ?_⟩) (by assumption) ?_
        rotate_left
        · (intro w hSw; obtain ⟨q0, q3⟩ := hSw; (go_simp <;> with_reducible rfl))
        try simp only [Act.put, List.setIfInBounds_toArray, List.set_cons_zero, List.set_cons_succ]
        refine wpAnyH_take (i := 2) (oi := { dst := some 20, op := Op.load 3 (Operand.tmp 19), type := 3, pos := _, after := #[{ on := 1, ground := Ground.data }], guard := none }) (v := ?_) rfl (by kernel_rfl) (by kernel_rfl) (by kernel_rfl) (fun _ _ _ h => h) (Or.inl ⟨by rfl, ?_⟩) (by assumption) ?_
        rotate_left
        · (intro w hSw; obtain ⟨q0, q3⟩ := hSw; (go_simp <;> with_reducible rfl))
        try simp only [Act.put, List.setIfInBounds_toArray, List.set_cons_zero, List.set_cons_succ]
        refine wpAnyH_take (i := 3) (oi := { dst := some 21, op := Op.fieldAddr 108 (Operand.tmp 10) 0, type := 0, pos := _, after := #[], guard := none }) (v := ?_) rfl (by kernel_rfl) (by kernel_rfl) (by kernel_rfl) (fun _ _ _ h => h) (Or.inl ⟨by rfl, ?_⟩) (by assumption) ?_
        rotate_left
        · (intro w hSw; obtain ⟨q0, q3⟩ := hSw; (go_simp <;> with_reducible rfl))
        try simp only [Act.put, List.setIfInBounds_toArray, List.set_cons_zero, List.set_cons_succ]
        refine wpAnyH_take (i := 4) (oi := { dst := some 22, op := Op.load 9 (Operand.tmp 21), type := 9, pos := _, after := #[{ on := 3, ground := Ground.data }], guard := none }) (v := ?_) rfl (by kernel_rfl) (by kernel_rfl) (by kernel_rfl) (fun _ _ _ h => h) (Or.inl ⟨by rfl, ?_⟩) (by assumption) ?_
        rotate_left
        · (intro w hSw; obtain ⟨q0, q3⟩ := hSw; (go_simp <;> with_reducible rfl))
        try simp only [Act.put, List.setIfInBounds_toArray, List.set_cons_zero, List.set_cons_succ]
        refine wpAnyH_take (i := 5) (oi := { dst := some 23, op := Op.move (Operand.tmp 2), type := 9, pos := _, after := #[], guard := none }) (v := ?_) rfl (by kernel_rfl) (by kernel_rfl) (by kernel_rfl) (fun _ _ _ h => h) (Or.inl ⟨by rfl, ?_⟩) (by assumption) ?_
        rotate_left
        · (intro w hSw; obtain ⟨q0, q3⟩ := hSw; (go_simp <;> with_reducible rfl))
        try simp only [Act.put, List.setIfInBounds_toArray, List.set_cons_zero, List.set_cons_succ]
        refine wpAnyH_take (i := 6) (oi := { dst := some 24, op := Op.binOp BinOp.eql 9 (Operand.tmp 22) (Operand.tmp 23) 9, type := 4, pos := _, after := #[{ on := 4, ground := Ground.data }, { on := 5, ground := Ground.data }], guard := none }) (v := ?_) rfl (by kernel_rfl) (by kernel_rfl) (by kernel_rfl) (fun _ _ _ h => h) (Or.inl ⟨by rfl, ?_⟩) (by assumption) ?_
        rotate_left
        · (intro w hSw; obtain ⟨q0, q3⟩ := hSw; (go_simp <;> with_reducible rfl))
        try simp only [Act.put, List.setIfInBounds_toArray, List.set_cons_zero, List.set_cons_succ]
        refine wpAnyH_ready (rs := [7]) (by kernel_rfl) (by simp) ?_
        refine (AllReadyH.cons (o := { dst := some 25, op := Op.call { callee := Callee.value (Operand.func 46), args := #[Operand.tmp 24], argTypes := #[4] }, type := 3, pos := _, after := #[{ on := 6, ground := Ground.data }], guard := none }) rfl (fun K hK => ?_) AllReadyH.nil)
        go_simp
        refine (flag_c _ _).mono ?_
        rintro e w' ⟨rfl, rfl⟩
        refine hK.out _ _ ?_ (fun hHeld => ?_)
        · exact ⟨c0v, c3v⟩
        clear hK K
        try simp only [Act.put, List.setIfInBounds_toArray, List.set_cons_zero, List.set_cons_succ]
        refine wpAnyH_take (i := 8) (oi := { dst := some 26, op := Op.binOp BinOp.mul 3 (Operand.tmp 20) (Operand.tmp 25) 3, type := 3, pos := _, after := #[{ on := 2, ground := Ground.data }, { on := 7, ground := Ground.data }], guard := none }) (v := ?_) rfl (by kernel_rfl) (by kernel_rfl) (by kernel_rfl) (fun _ _ _ h => h) (Or.inl ⟨by rfl, ?_⟩) (by assumption) ?_
        rotate_left
        · (intro w hSw; obtain ⟨q0, q3⟩ := hSw; (go_simp <;> with_reducible rfl))
        try simp only [Act.put, List.setIfInBounds_toArray, List.set_cons_zero, List.set_cons_succ]
        refine wpAnyH_take (i := 9) (oi := { dst := some 27, op := Op.binOp BinOp.add 3 (Operand.tmp 18) (Operand.tmp 26) 3, type := 3, pos := _, after := #[{ on := 0, ground := Ground.data }, { on := 8, ground := Ground.data }], guard := none }) (v := ?_) rfl (by kernel_rfl) (by kernel_rfl) (by kernel_rfl) (fun _ _ _ h => h) (Or.inl ⟨by rfl, ?_⟩) (by assumption) ?_
        rotate_left
        · (intro w hSw; obtain ⟨q0, q3⟩ := hSw; (go_simp <;> with_reducible rfl))
        try simp only [Act.put, List.setIfInBounds_toArray, List.set_cons_zero, List.set_cons_succ]
        refine wpAnyH_take (i := 10) (oi := { dst := some 8, op := Op.assign (Operand.tmp 27), type := 3, pos := _, after := #[{ on := 9, ground := Ground.data }, { on := 7, ground := Ground.chain }, { on := 0, ground := Ground.phase }, { on := 1, ground := Ground.phase }, { on := 2, ground := Ground.phase }, { on := 3, ground := Ground.phase }, { on := 4, ground := Ground.phase }, { on := 5, ground := Ground.phase }, { on := 6, ground := Ground.phase }, { on := 7, ground := Ground.phase }, { on := 8, ground := Ground.phase }, { on := 9, ground := Ground.phase }], guard := none }) (v := ?_) rfl (by kernel_rfl) (by kernel_rfl) (by kernel_rfl) (fun _ _ _ h => h) (Or.inl ⟨by rfl, ?_⟩) (by assumption) ?_
        rotate_left
        · (intro w hSw; obtain ⟨q0, q3⟩ := hSw; (go_simp <;> with_reducible rfl))
        try simp only [Act.put, List.setIfInBounds_toArray, List.set_cons_zero, List.set_cons_succ]
        refine wpAnyH_done (by kernel_rfl) ?_ _
        clear hHeld
        go_wp2_with fail
        go_roundw
        case rel => exact ⟨k + 1, (by have := HK.out; omega), by go_num, (by rw [HT.out, if_neg hke, Int.add_zero, HW00.out]), hG6⟩
        case measure => have := HK.out; simp [intOf]; omega
    · obtain rfl : k = l.length := by omega
      rw [List.take_length]
      have hbd := tlS_bnd key HCB.out
      obtain ⟨SS, hSS⟩ : ∃ SS, tlS key l = SS := ⟨_, rfl⟩
      rw [hSS] at hbd HXL ⊢
      clear hSS
      obtain ⟨sb0, sb1⟩ := hbd
      have sb2 : SS ≤ 1000000000 := by omega
      by_cases s0 : SS = 0
      · subst s0
        obtain rfl : XL = [] := by rw [HXL.out]; rfl
        go_wp2_with fail
        go_ret2
        exact ⟨_, rfl, RdR.nil _ _ _, hG0.trans hGr⟩
      · have sb : ¬ 1000000000 < SS := by omega
        have hb : (wr.alloc (.cells #[.int .i64 6, .string ⟨#[116, 111, 108, 108]⟩, .int .i64 SS] 72)).ownsRow wr.heap.size 72 3 (.slice (some ⟨wr.heap.size, 0, none⟩) 1 1) 1 #[.int .i64 6, .string ⟨#[116, 111, 108, 108]⟩, .int .i64 SS].toList := World.ownsRow_lit wr #[.int .i64 6, .string ⟨#[116, 111, 108, 108]⟩, .int .i64 SS] 1 (Nat.le_refl _) (by show 1 ≤ maxLen; decide) rfl
        have hown1 : OwnLi (wr.alloc (.cells #[.int .i64 6, .string ⟨#[116, 111, 108, 108]⟩, .int .i64 SS] 72)) wr.heap.size (.slice (some ⟨wr.heap.size, 0, none⟩) 1 1) [(6, ⟨#[116, 111, 108, 108]⟩, SS)] := hb
        have hG1 := (hG0.trans hGr).alloc (.cells #[.int .i64 6, .string ⟨#[116, 111, 108, 108]⟩, .int .i64 SS] 72)
        have hB1 := (hB.quiet hGr).alloc (.cells #[.int .i64 6, .string ⟨#[116, 111, 108, 108]⟩, .int .i64 SS] 72)
        have hgw := (hG0.trans hGr).size
        clear hb
        go_upto_region 12 with fail
        generalize wr.alloc (.cells #[.int .i64 6, .string ⟨#[116, 111, 108, 108]⟩, .int .i64 SS] 72) = x1 at hown1 hG1 hB1 ⊢
        generalize wr.heap.size = g1 at hown1 hgw ⊢
        have c2 : x1.cell? ⟨g, 2, none⟩ = some (.int .i64 f) := hB1.cell 2
        by_cases f0 : 0 < f
        · obtain rfl : XL = [(6, ⟨#[116, 111, 108, 108]⟩, SS), (6, ⟨#[116, 111, 108, 108, 102, 101, 101]⟩, f)] := by rw [HXL.out]; unfold tlL; rw [if_neg s0, if_pos f0]
          have hownA := OwnX.alloc hown1 (.cells #[.int .i64 6, .string ⟨#[116, 111, 108, 108, 102, 101, 101]⟩, .int .i64 f] 72)
          have hob := OwnX.low hown1
          have hsz := hG1.size
          have hgx : g1 < x1.heap.size := (World.ownsRow.lt hown1 g1 rfl).2
          go_wp2_with (at_builtin; refine wpList_plain rfl fun K' hK' => wp_append_x li_rowOk _ _ rfl g1 (.slice (some ⟨g1, 0, none⟩) 1 1) [(6, ⟨#[116, 111, 108, 108]⟩, SS)] rfl hownA x1.heap.size (6, ⟨#[116, 111, 108, 108, 102, 101, 101]⟩, f) rfl (Bk.new x1 _ _) (by show 1 ≤ 1000; decide) (by simp; omega) ?_; intro v8 w8 hown8 hgrow; refine hK' _ _ ?_)
          go_wp2_with fail
          go_ret2
          exact ⟨_, rfl, Rd.of_owns hown8, (hG1.alloc _).other hgrow (fun r e => .inl (Nat.le_trans hgw (hob r e)))⟩
        · obtain rfl : XL = [(6, ⟨#[116, 111, 108, 108]⟩, SS)] := by rw [HXL.out]; unfold tlL; rw [if_neg s0, if_neg f0]
          go_wp2_with fail
          go_ret2
          exact ⟨_, rfl, Rd.of_owns hown1, hG1⟩
end Go.Proofs.YtamoefnpfkcigaaDoor

/- Passages at gates: toll.Check, toll.checkRuled. Written by gentck.py. -/
namespace Go.Proofs.YtamoefnpfkcigaaDoor
open Go.RowKit

def tkErr (g : List Ga) : List Pa → Int
  | [] => 0
  | p :: r => if (gaS g p.2.1).isSome = false then 8 else if momB (p.1 - clk g p.2.1) = false then 16 else tkErr g r
def tcE (g : List Ga) (l : List Pa) : Int := if gaE g = 0 then (if paE l = 0 then tkErr g l else paE l) else gaE g
def rdE (x : Tr) (g : List Ga) (l : List Pa) : Int := if trE x = 0 then tcE g l else trE x
theorem pa_bnd (b : Option Pa) (l : List Pa) (h : paErr b l = 0) : ∀ p ∈ l, 0 ≤ p.1 ∧ p.1 < 5761440 := by
  induction l generalizing b with
  | nil => exact fun p hp => by cases hp
  | cons p r ih =>
    unfold paErr at h
    split at h
    · omega
    · rename_i hm
      split at h
      · omega
      · split at h
        · omega
        · split at h
          · omega
          · split at h
            · omega
            · have i3 := ih _ h
              intro q hq
              rcases List.mem_cons.1 hq with rfl | hq
              · unfold momB at hm
                simp at hm
                omega
              · exact i3 q hq
theorem paE_ok {l : List Pa} (h : paE l = 0) : (∀ p ∈ l, 0 ≤ p.1 ∧ p.1 < 5761440) ∧ l.length ≤ 1000 := by
  unfold paE at h
  split at h
  · omega
  · exact ⟨pa_bnd _ _ h, by omega⟩
def TcRel (w : World) (gs : List Ga) (l : List Pa) (b c : Nat) (f : Fn) (i : Value) (wr : World) : Prop :=
  ∃ k : Nat, k ≤ l.length ∧ i = .int .i64 k ∧ tkErr gs l = tkErr gs (l.drop k) ∧ MapG wr b c f ∧ G w wr none
set_option maxRecDepth 100000 in
set_option maxHeartbeats 8000000 in
theorem tollCheck_c (v v2 : Value) (gs : List Ga) (l : List Pa) (w : World) (hr : RdR w 3 gaC v gs) (hr2 : RdR w 4 paC v2 l) (hl : GaOk gs) (hl2 : PaOk l) (hn : gs.length ≤ 1000) (hn2 : l.length ≤ 1000000) :
    Calls Tryd.prog 73 #[v, v2] w fun e w' => e = .returned (.int .i64 (tcE gs l)) ∧ G w w' none := by
  obtain ⟨a, cap, rfl, hcap, hm⟩ := RdR.form hr
  obtain ⟨a2, cap2, rfl, hcap2, hm2⟩ := RdR.form hr2
  obtain ⟨E, hE⟩ : ∃ E, tcE gs l = E := ⟨_, rfl⟩
  have HE : Hid (E = if gaE gs = 0 then (if paE l = 0 then tkErr gs l else paE l) else gaE gs) := Lib.hid (by rw [← hE]; rfl)
  rw [hE]
  clear hE
  go_enter Tryd.func73, Tryd.ntmps73
  go_wp2_with fail
  refine (checkGates_c _ gs _ hr hl (by omega)).mono ?_; rintro e w1 ⟨rfl, hG⟩
  replace hr := hr.quiet hG
  replace hr2 := hr2.quiet hG
  obtain ⟨E1, hE1⟩ : ∃ E1, gaE gs = E1 := ⟨_, rfl⟩
  have HG := Lib.hid hE1
  rw [hE1] at HE ⊢
  clear hE1
  by_cases e1 : E1 = 0
  · subst e1
    have HE2 : Hid (E = if paE l = 0 then tkErr gs l else paE l) := Lib.hid (by rw [HE.out, if_pos rfl])
    clear HE
    go_wp2_with fail
    refine (paForm_c _ l _ hr2 hl2 hn2).mono ?_; rintro e w2 ⟨rfl, hh⟩
    replace hr := hr.quiet hh
    replace hr2 := hr2.quiet hh
    replace hG := hG.trans hh
    clear hh
    obtain ⟨E2, hE2⟩ : ∃ E2, paE l = E2 := ⟨_, rfl⟩
    have HP := Lib.hid hE2
    rw [hE2] at HE2 ⊢
    clear hE2
    by_cases e2 : E2 = 0
    · subst e2
      have HE3 : Hid (E = tkErr gs l) := Lib.hid (by rw [HE2.out, if_pos rfl])
      have HPB := Lib.hid (paE_ok HP.out).1
      have HGB := Lib.hid (gaE_ok HG.out).2.1
      clear HE2
      go_wp2_with fail
      refine (gatesOf_c _ gs _ hr hl hn).mono ?_; rintro e w3 ⟨b, rfl, hbb0, hM, hh⟩
      have HR2 := Lib.hid (hr2.quiet hh)
      replace hG := hG.trans hh
      clear hr hr2 hh
      obtain ⟨F, hF⟩ : ∃ F, gaF eF gs = F := ⟨_, rfl⟩
      have HF := Lib.hid hF
      generalize gaN 0 eF gs = cn at hM
      rw [hF] at hM
      clear hF
      go_wp2_with fail
      go_loopw [26] (TcRel w3 gs l b cn F) (fun i _ => l.length - (intOf i).toNat)
      case atStart => exact ⟨0, by omega, rfl, rfl, hM, G.refl _ _⟩
      case round =>
        clear hM
        obtain ⟨k, hkl, rfl, heq, hM, hGr⟩ := hrel
        have HQ := Lib.hid heq
        clear heq
        by_cases hk : k < l.length
        · obtain ⟨⟨t, gk, y, c⟩, hp⟩ : ∃ p, l[k]? = some p := ⟨_, List.getElem?_eq_getElem hk⟩
          have hdrop : l.drop k = (t, gk, y, c) :: l.drop (k + 1) := by rw [List.drop_eq_getElem_cons hk, ← (List.getElem?_eq_some_iff.1 hp).2]
          have hpm := List.mem_of_getElem? hp
          have HT := Lib.hid (HPB.out _ hpm)
          have hs1 := (hl2 _ hpm).1
          have HSm := Lib.hid hs1
          dsimp only at hs1 HT HSm
          unfold Small at hs1
          obtain ⟨bb, bo, rfl, hbb, _⟩ := RdR.elem paC_sz HR2.out hGr hp
          have HW := Lib.hid (paRow HR2.out hGr hp)
          have HS : Hid (tkErr gs (l.drop k) = if (gaS gs gk).isSome = false then 8 else if momB (t - clk gs gk) = false then 16 else tkErr gs (l.drop (k + 1))) := Lib.hid (by rw [hdrop]; rfl)
          have hfa : Hid (F gk = (gaS gs gk).map (fun u => .agg (gaC u))) := Lib.hid (by rw [← HF.out, gaF_at])
          have HK := Lib.hid hk
          have hB5 : Bk (wr.alloc (.cells #[.int .i64 t, .string gk, .string y, .int .i64 c] 90)) wr.heap.size 90 #[.int .i64 t, .string gk, .string y, .int .i64 c] := Bk.new wr 90 _
          have hG5 : G w3 (wr.alloc (.cells #[.int .i64 t, .string gk, .string y, .int .i64 c] 90)) none := hGr.alloc (.cells (paC (t, gk, y, c)) 90)
          have hM5 := hM.alloc (.cells #[.int .i64 t, .string gk, .string y, .int .i64 c] 90)
          clear hdrop hp hGr hM hpm
          go_upto_region 11 with (refine wpList_load_at rfl 90 _ rfl ⟨bb, bo + k * 4, none⟩ rfl #[.int .i64 t, .string gk, .string y, .int .i64 c] _ HW.out Tryd.underlying90 rfl (pa_info (t, gk, y, c)) ?_)
          clear HW
          generalize wr.alloc (.cells #[.int .i64 t, .string gk, .string y, .int .i64 c] 90) = w5 at hB5 hG5 hM5 ⊢
          generalize wr.heap.size = g5 at hB5 ⊢
          have c1 : w5.cell? ⟨g5, 1, none⟩ = some (.string gk) := hB5.cell 1
          cases hg : gaS gs gk with
          | none =>
            have hfs : F gk = none := by rw [hfa.out, hg]; rfl
            obtain rfl : E = 8 := by rw [HE3.out, HQ.out, HS.out, hg]; rfl
            have hG6 := hG5.alloc (.cells #[.string ⟨#[]⟩, .string ⟨#[]⟩, .int .i64 0] 88)
            clear hg
            go_wp2_with (at_lookup; refine wpM_look_ok rfl _ _ 124 rfl 9 88 Tryd.underlying9 Tryd.underlying124 (.agg #[.string ⟨#[]⟩, .string ⟨#[]⟩, .int .i64 0]) (zg_run _) b cn F rfl hM5 gk rfl hs1 ?_; rw [hfs])
            go_ret
            exact ⟨rfl, hG.trans hG6⟩
          | some u =>
            obtain ⟨k1, a1, q1⟩ := u
            have hfs : F gk = some (.agg #[.string k1, .string a1, .int .i64 q1]) := by rw [hfa.out, hg]; rfl
            have HS2 : Hid (tkErr gs (l.drop k) = if momB (t - clk gs gk) = false then 16 else tkErr gs (l.drop (k + 1))) := Lib.hid (by rw [HS.out, hg]; rfl)
            have hG6 := hG5.alloc (.cells #[.string k1, .string a1, .int .i64 q1] 88)
            have hM6 := hM5.alloc (.cells #[.string k1, .string a1, .int .i64 q1] 88)
            have hB6 := hB5.alloc (.cells #[.string k1, .string a1, .int .i64 q1] 88)
            clear hg
            go_upto_region 12 with (at_lookup; refine wpM_look_ok rfl _ _ 124 rfl 9 88 Tryd.underlying9 Tryd.underlying124 (.agg #[.string ⟨#[]⟩, .string ⟨#[]⟩, .int .i64 0]) (zg_run _) b cn F rfl hM5 gk rfl hs1 ?_; rw [hfs])
            generalize w5.alloc (.cells #[.string k1, .string a1, .int .i64 q1] 88) = w6 at hG6 hM6 hB6 ⊢
            clear hB5 hG5 hM5 c1
            go_wp2_with (refine wpList_load_row rfl 90 _ rfl g5 rfl 90 #[.int .i64 t, .string gk, .string y, .int .i64 c] (0, 0) _ hB6 Tryd.underlying90 rfl (pa_info (t, gk, y, c)) ?_)
            refine (trueTime_c b cn gs (t, gk, y, c) _ (by rw [HF.out]; exact hM6) HSm.out (by have := HT.out; dsimp only; omega) HGB.out).mono ?_; rintro e w7 ⟨rfl, hh⟩
            have hG7 := hG6.trans hh
            have hM7 := hM6.quiet hh
            clear hG6 hM6 hB6 hh
            dsimp only
            generalize t - clk gs gk = tt at HS2 ⊢
            go_wp2_with fail
            refine (isMoment_c tt _).mono ?_; rintro e w' ⟨rfl, rfl⟩
            cases hmb : momB tt with
            | false =>
              obtain rfl : E = 16 := by rw [HE3.out, HQ.out, HS2.out, if_pos hmb]
              clear hmb
              go_wp2_with fail
              go_ret
              exact ⟨rfl, hG.trans hG7⟩
            | true =>
              have HN : Hid (tkErr gs l = tkErr gs (l.drop (k + 1))) := Lib.hid (by rw [HQ.out, HS2.out, if_neg (by simp [hmb])])
              clear hmb
              go_wp2_with fail
              go_roundw
              case rel => exact ⟨k + 1, (by have := HK.out; omega), by go_num, HN.out, hM7, hG7⟩
              case measure => have := HK.out; simp [intOf]; omega
        · obtain rfl : k = l.length := by omega
          obtain rfl : E = 0 := by rw [HE3.out, HQ.out, List.drop_length]; rfl
          go_wp2_with fail
          go_ret
          exact ⟨rfl, hG.trans hGr⟩
    · obtain rfl : E = E2 := by rw [HE2.out, if_neg e2]
      have hb : (E != 0) = true := bne_iff_ne.2 e2
      clear HE2 HP e2
      go_wp2_with fail
      go_ret
      exact ⟨rfl, hG⟩
  · obtain rfl : E = E1 := by rw [HE.out, if_neg e1]
    have hb : (E != 0) = true := bne_iff_ne.2 e1
    clear HE HG e1
    go_wp2_with fail
    go_ret
    exact ⟨rfl, hG⟩
set_option maxRecDepth 100000 in
set_option maxHeartbeats 4000000 in
theorem checkRuled_c (x : Tr) (v v2 : Value) (gs : List Ga) (l : List Pa) (w : World) (hr : RdR w 3 gaC v gs) (hr2 : RdR w 4 paC v2 l) (hl : GaOk gs) (hl2 : PaOk l) (hn : gs.length ≤ 1000) (hn2 : l.length ≤ 1000000) :
    Calls Tryd.prog 53 #[v, .agg (trC x), v2] w fun e w' => e = .returned (.int .i64 (rdE x gs l)) ∧ G w w' none := by
  obtain ⟨E, hE⟩ : ∃ E, rdE x gs l = E := ⟨_, rfl⟩
  have HE : Hid (E = if trE x = 0 then tcE gs l else trE x) := Lib.hid (by rw [← hE]; rfl)
  rw [hE]
  clear hE
  have CT := Lib.hid (fun w => tollRules_c x w)
  obtain ⟨d, q, f⟩ := x
  show Calls Tryd.prog 53 #[v, .agg #[.int .i64 d, .int .i64 q, .int .i64 f], v2] w _
  have hB : Bk (w.alloc (.cells #[.int .i64 d, .int .i64 q, .int .i64 f] 51)) w.heap.size 51 #[.int .i64 d, .int .i64 q, .int .i64 f] := Bk.new _ _ _
  have hG := (G.refl w none).alloc (.cells #[.int .i64 d, .int .i64 q, .int .i64 f] 51)
  go_enter Tryd.func53, Tryd.ntmps53
  go_upto_region 1 with fail
  generalize w.alloc (.cells #[.int .i64 d, .int .i64 q, .int .i64 f] 51) = w1 at hB hG ⊢
  generalize w.heap.size = g at hB ⊢
  go_wp2_with (refine wpList_load_row rfl 51 _ rfl g rfl 51 #[.int .i64 d, .int .i64 q, .int .i64 f] (0, 0) _ hB Tryd.underlying51 rfl (tr_info (d, q, f)) ?_)
  refine (CT.out _).mono ?_; rintro e w2 ⟨rfl, hh⟩
  replace hr := (hr.quiet hG).quiet hh
  replace hr2 := (hr2.quiet hG).quiet hh
  replace hG := hG.trans hh
  clear hh hB
  generalize trE (d, q, f) = E1 at HE ⊢
  by_cases e1 : E1 = 0
  · subst e1
    obtain rfl : E = tcE gs l := by rw [HE.out, if_pos rfl]
    clear HE
    go_wp2_with fail
    refine (tollCheck_c _ _ gs l _ hr hr2 hl hl2 hn hn2).mono ?_; rintro e w3 ⟨rfl, hh⟩
    go_wp2_with fail
    go_ret
    exact ⟨rfl, hG.trans hh⟩
  · obtain rfl : E = E1 := by rw [HE.out, if_neg e1]
    have hb : (E != 0) = true := bne_iff_ne.2 e1
    clear HE e1
    go_wp2_with fail
    go_ret
    exact ⟨rfl, hG⟩
end Go.Proofs.YtamoefnpfkcigaaDoor

/- A map whose keys are of any kind, told by a function from the keys to the values that stand at them, and by how many there are. No program. -/
namespace Go.Proofs.YtamoefnpfkcigaaDoor
open Go.RowKit Go.ChangeMaps Go.MapKept
open Go.Maps (Keyed IsMap Tidy has size)

/-- A kind of keys: which are good, their values, how they are told. -/
structure KeyK (P : Program) (k : TypeId) (κ : Type) where
  ok : κ → Prop
  v : κ → Value
  l : κ → Lit
  keyed : Maps.Keyed P k
  of : ∀ x, ok x → keyOf P k (v x) = some (l x)
  inj : ∀ x y, v x = v y → x = y
theorem KeyK.isk {P : Program} {k : TypeId} {κ : Type} (KK : KeyK P k κ) {x : κ} (h : KK.ok x) : WideAt.IsKeyLit (KK.l x) := KK.keyed.key (KK.of x h)
theorem KeyK.linj {P : Program} {k : TypeId} {κ : Type} (KK : KeyK P k κ) {x y : κ} (hx : KK.ok x) (hy : KK.ok y) (h : x ≠ y) : KK.l x ≠ KK.l y := fun e => h (KK.inj x y (KK.keyed.inj (KK.of x hx) (by rw [e]; exact KK.of y hy)))
abbrev FnK (κ : Type) := κ → Option Value
/-- What a map holds, as a datum. -/
def MapIsK {P : Program} {k : TypeId} {κ : Type} (KK : KeyK P k κ) (D : DataW Value) (c : Nat) (f : FnK κ) : Prop := Tidy D ∧ size D = c ∧ ∀ s, KK.ok s → has D (KK.l s) = (f s).isSome ∧ ∀ v, f s = some v → ∀ z, D.atKey (KK.l s) z = .held v
/-- Block 'b' is a map of 'c' keys that holds what 'f' says. -/
def OwnK {P : Program} {k : TypeId} {κ : Type} (KK : KeyK P k κ) (w : World) (b c : Nat) (f : FnK κ) : Prop := ∃ D n, w.ownsMap P k RV b n D ∧ n ≤ c ∧ MapIsK KK D c f
def fputK {κ : Type} [DecidableEq κ] (f : FnK κ) (s : κ) (v : Value) : FnK κ := fun t => if t = s then some v else f t
def fdelK {κ : Type} [DecidableEq κ] (f : FnK κ) (s : κ) : FnK κ := fun t => if t = s then none else f t
def cputK {κ : Type} (c : Nat) (f : FnK κ) (s : κ) : Nat := if (f s).isSome = true then c else c + 1
section
variable {P : Program} {k : TypeId} {κ : Type} (KK : KeyK P k κ)
theorem MapIsK.empty : MapIsK KK (.map []) 0 (fun _ => none) := ⟨Maps.tidy_empty, rfl, fun _ _ => ⟨rfl, fun _ h => by cases h⟩⟩
variable {KK}
theorem MapIsK.put [DecidableEq κ] {D : DataW Value} {c : Nat} {f : FnK κ} (h : MapIsK KK D c f) {s : κ} (hs : KK.ok s) (v : Value) : MapIsK KK (D.put (KK.l s) (.held v)) (cputK c f s) (fputK f s v) := by
  obtain ⟨h1, h2, h3⟩ := h
  refine ⟨h1.put (KK.isk hs) _, ?_, fun t ht => ?_⟩
  · rw [Maps.size_put h1, (h3 s hs).1, h2]
    rfl
  · by_cases e : t = s
    · subst e
      simp only [fputK, if_pos]
      exact ⟨by rw [Maps.has_put_same h1.isMap (KK.isk ht)]; rfl, fun u hu z => by cases hu; exact Maps.atKey_put_same h1.isMap (KK.isk ht) _ _⟩
    · simp only [fputK, if_neg e]
      exact ⟨by rw [Maps.has_put_other (KK.linj ht hs e)]; exact (h3 t ht).1, fun u hu z => by rw [Maps.atKey_put_other (KK.linj ht hs e)]; exact (h3 t ht).2 u hu z⟩
theorem MapIsK.del [DecidableEq κ] {D : DataW Value} {c : Nat} {f : FnK κ} (h : MapIsK KK D c f) {s : κ} (hs : KK.ok s) : MapIsK KK (D.del (KK.l s)) (if (f s).isSome = true then c - 1 else c) (fdelK f s) := by
  obtain ⟨h1, h2, h3⟩ := h
  refine ⟨h1.del _, ?_, fun t ht => ?_⟩
  · have := Maps.size_del h1 (k := KK.l s)
    rw [(h3 s hs).1, h2] at this
    split at this <;> simp_all <;> omega
  · by_cases e : t = s
    · subst e
      simp only [fdelK, if_pos]
      exact ⟨by rw [Maps.has_del_same]; rfl, fun u hu => by cases hu⟩
    · simp only [fdelK, if_neg e]
      exact ⟨by rw [Maps.has_del_other (KK.linj ht hs e)]; exact (h3 t ht).1, fun u hu z => by rw [Maps.atKey_del_other (KK.linj ht hs e)]; exact (h3 t ht).2 u hu z⟩
end
section
variable {P : Program} {k : TypeId} {κ : Type} {KK : KeyK P k κ} {w : World} {b c : Nat} {f : FnK κ}
theorem OwnK.made (w : World) (KK : KeyK P k κ) {b : Nat} (hb : w.heap.size = b) : OwnK KK (w.alloc (.map #[] 0)) b 0 (fun _ => none) := by
  subst hb
  exact ⟨_, 0, World.ownsMap_made w P k RV, Nat.le_refl _, MapIsK.empty KK⟩
theorem OwnK.lt (h : OwnK KK w b c f) : b < w.heap.size := by obtain ⟨D, n, h, _⟩ := h; exact h.lt
theorem OwnK.grown {w' : World} {s : Option Nat} (h : OwnK KK w b c f) (hg : G w w' s) (hs : some b ≠ s) : OwnK KK w' b c f := by obtain ⟨D, n, h, r⟩ := h; exact ⟨D, n, h.kept hg hs, r⟩
theorem OwnK.quiet {w' : World} (h : OwnK KK w b c f) (hg : G w w' none) : OwnK KK w' b c f := h.grown hg (by simp)
theorem OwnK.alloc (h : OwnK KK w b c f) (o : Obj) : OwnK KK (w.alloc o) b c f := h.quiet ((G.refl _ _).alloc o)
theorem OwnK.drewN (h : OwnK KK w b c f) (n : Nat) : OwnK KK (w.drewN n) b c f := h.quiet ((G.refl _ _).drewN n)
theorem OwnK.setCell (h : OwnK KK w b c f) {p : Addr} (hp : b ≠ p.block) (u : Value) : OwnK KK (w.setCell p u) b c f := h.grown (grownBy_setCell_row w p u) (by simpa using hp)
theorem OwnK.setRow (h : OwnK KK w b c f) {g : Nat} (hp : b ≠ g) (cs : Array Value) : OwnK KK (w.setRow g cs) b c f := h.grown (grownBy_setRow w g cs) (by simpa using hp)
theorem OwnK.look {t e : TypeId} (h : OwnK KK w b c f) (ht : P.underlying t = some (.map k e)) {z : Value} (hz : (zeroValue e).run P w = .ok z w) {s : κ} (hs : KK.ok s) :
    (Instr.lookup t (.map (some b)) (KK.v s) false).run P w = .ok ((f s).getD z) w := by
  obtain ⟨D, n, h, _, h1, h2, h3⟩ := h
  obtain ⟨v, ps, hrun, hv⟩ := h.lookup KK.keyed ht hz (zd := .held z) (zp := []) rfl (KK.of s hs)
  rw [hrun]
  have e : DataW.held v = D.atKey (KK.l s) (.held z) := by have := congrArg (fun o => o.map Prod.fst) hv; simpa [RV] using this
  cases hf : f s with
  | none =>
    have hn := (h3 s hs).1
    rw [hf] at hn
    rw [Maps.atKey_of_not_has hn] at e
    injection e with e
    rw [e]; rfl
  | some u =>
    rw [(h3 s hs).2 u hf] at e
    injection e with e
    rw [e]; rfl
theorem OwnK.look_ok {t e : TypeId} (h : OwnK KK w b c f) (ht : P.underlying t = some (.map k e)) {z : Value} (hz : (zeroValue e).run P w = .ok z w) {s : κ} (hs : KK.ok s) :
    (Instr.lookup t (.map (some b)) (KK.v s) true).run P w = .ok (.tuple #[(f s).getD z, .bool (f s).isSome]) w := by
  obtain ⟨D, n, h, _, h1, h2, h3⟩ := h
  obtain ⟨v, ps, hrun, hv⟩ := h.look_ok KK.keyed ht hz (zd := .held z) (zp := []) rfl (KK.of s hs)
  rw [hrun]
  have e : DataW.held v = D.atKey (KK.l s) (.held z) := by have := congrArg (fun o => o.map Prod.fst) hv; simpa [RV] using this
  have hb : has D (KK.l s) = (f s).isSome := (h3 s hs).1
  rw [show Maps.has D (KK.l s) = (f s).isSome from hb]
  cases hf : f s with
  | none =>
    have hn := (h3 s hs).1
    rw [hf] at hn
    rw [Maps.atKey_of_not_has hn] at e
    injection e with e
    rw [e]; rfl
  | some u =>
    rw [(h3 s hs).2 u hf] at e
    injection e with e
    rw [e]; rfl
theorem OwnK.store [DecidableEq κ] {t e : TypeId} (h : OwnK KK w b c f) (ht : P.underlying t = some (.map k e)) (hc : c < maxLen) {s : κ} (hs : KK.ok s) (v : Value) :
    ∃ w', (Instr.mapUpdate t (.map (some b)) (KK.v s) v).run P w = .ok () w' ∧ OwnK KK w' b (cputK c f s) (fputK f s v) ∧ w.grownBy w' (some b) := by
  obtain ⟨D, n, h, hn, hM⟩ := h
  obtain ⟨w', hrun, h1, h2⟩ := h.update KK.keyed ht (Nat.lt_of_le_of_lt hn hc) (KK.of s hs) (val := v) (d := .held v) (ps := []) rfl
  have hM' := hM.put hs v
  refine ⟨w', hrun, ⟨_, size (D.put (KK.l s) (.held v)), ?_, Nat.le_of_eq hM'.2.1, hM'⟩, h2⟩
  obtain ⟨es, clock, hb, F, _, hD⟩ := h1
  have hD' : D.put (KK.l s) (.held v) = .map ((es.toList.map (Go.WideElems.rg P k RV)).foldr DataW.insert []) := hD
  refine ⟨es, clock, hb, F, ?_, hD⟩
  rw [hD']
  simp [size, length_sorted]
theorem OwnK.drop [DecidableEq κ] {t e : TypeId} (h : OwnK KK w b c f) (ht : P.underlying t = some (.map k e)) {s : κ} (hs : KK.ok s) (ty : TypeId) :
    ∃ w', (Builtin.delete_ #[t, k] ty #[.map (some b), KK.v s]).run P w = .ok (.tuple #[]) w' ∧ OwnK KK w' b (if (f s).isSome = true then c - 1 else c) (fdelK f s) ∧ w.grownBy w' (some b) := by
  obtain ⟨D, n, h, hn, hM⟩ := h
  obtain ⟨w', hrun, h1, h2⟩ := h.drop KK.keyed ht (KK.of s hs) ty
  have hM' := hM.del hs
  refine ⟨w', hrun, ⟨_, size (D.del (KK.l s)), ?_, Nat.le_of_eq hM'.2.1, hM'⟩, h2.grown⟩
  obtain ⟨es, clock, hb, F, _, hD⟩ := h1
  have hD' : D.del (KK.l s) = .map ((es.toList.map (Go.WideElems.rg P k RV)).foldr DataW.insert []) := hD
  refine ⟨es, clock, hb, F, ?_, hD⟩
  rw [hD']
  simp [size, length_sorted]
end

/-! ### At the operation, for the walk -/
section
variable {P : Program} {k : TypeId} {κ : Type} {KK : KeyK P k κ} {w : World} {ops : Array Oper} {rest : List Oper} {o : Oper} {a : Act} {Q : Exit → Act → World → Prop}
theorem wpK_look (hg : o.guard = none) (m x : Operand) (t : TypeId) (hop : o.op = Op.lookup t m x false) (e : TypeId) (ht : P.underlying t = some (.map k e)) (z : Value) (hz : (zeroValue e).run P w = .ok z w)
    (b c : Nat) (f : FnK κ) (hm : a.eval m = .map (some b)) (hown : OwnK KK w b c f) (s : κ) (hx : a.eval x = KK.v s) (hs : KK.ok s) (hK : wpList P ops Q rest (a.put o.dst ((f s).getD z)) w) : wpList P ops Q (o :: rest) a w := by
  refine wpList_plain hg fun K' hK' => ?_
  unfold Oper.wp
  simp [execOp, hop, hm, hx, hown.look ht hz hs, Result.andThen]
  exact hK' _ _ hK
theorem wpK_look_ok (hg : o.guard = none) (m x : Operand) (t : TypeId) (hop : o.op = Op.lookup t m x true) (e : TypeId) (ht : P.underlying t = some (.map k e)) (z : Value) (hz : (zeroValue e).run P w = .ok z w)
    (b c : Nat) (f : FnK κ) (hm : a.eval m = .map (some b)) (hown : OwnK KK w b c f) (s : κ) (hx : a.eval x = KK.v s) (hs : KK.ok s) (hK : wpList P ops Q rest (a.put o.dst (.tuple #[(f s).getD z, .bool (f s).isSome])) w) : wpList P ops Q (o :: rest) a w := by
  refine wpList_plain hg fun K' hK' => ?_
  unfold Oper.wp
  simp [execOp, hop, hm, hx, hown.look_ok ht hz hs, Result.andThen]
  exact hK' _ _ hK
theorem wpK_store [DecidableEq κ] (hg : o.guard = none) (m x v : Operand) (t : TypeId) (hop : o.op = Op.mapUpdate t m x v) (e : TypeId) (ht : P.underlying t = some (.map k e))
    (b c : Nat) (f : FnK κ) (hm : a.eval m = .map (some b)) (hown : OwnK KK w b c f) (hc : c < maxLen) (s : κ) (hx : a.eval x = KK.v s) (hs : KK.ok s) (u : Value) (hv : a.eval v = u)
    (hK : ∀ w', OwnK KK w' b (cputK c f s) (fputK f s u) → w.grownBy w' (some b) → wpList P ops Q rest (a.put o.dst undef) w') : wpList P ops Q (o :: rest) a w := by
  refine wpList_plain hg fun K' hK' => ?_
  obtain ⟨w', hrun, r1, r2⟩ := hown.store ht hc hs u
  unfold Oper.wp
  simp [execOp, hop, hm, hx, hv, hrun, Result.andThen]
  exact hK' _ _ (hK w' r1 r2)
theorem wpK_delete [DecidableEq κ] (hg : o.guard = none) (m x : Operand) (t : TypeId) (hop : o.op = Op.call { callee := Callee.builtin Builtin.delete, args := #[m, x], argTypes := #[t, k] }) (e : TypeId) (ht : P.underlying t = some (.map k e))
    (b c : Nat) (f : FnK κ) (hm : a.eval m = .map (some b)) (hown : OwnK KK w b c f) (s : κ) (hx : a.eval x = KK.v s) (hs : KK.ok s)
    (hK : ∀ w', OwnK KK w' b (if (f s).isSome = true then c - 1 else c) (fdelK f s) → w.grownBy w' (some b) → wpList P ops Q rest (a.put o.dst (.tuple #[])) w') : wpList P ops Q (o :: rest) a w := by
  refine wpList_plain hg fun K' hK' => ?_
  obtain ⟨w', hrun, r1, r2⟩ := hown.drop ht hs o.type
  unfold Oper.wp
  simp [execOp, hop, resolve, invoke, builtin, hm, hx, hrun, Result.andThen]
  exact hK' _ _ (hK w' r1 r2)
theorem wpK_len (hg : o.guard = none) (m : Operand) (t : TypeId) (hop : o.op = Op.call { callee := Callee.builtin Builtin.len, args := #[m], argTypes := #[t] }) (e : TypeId) (ht : P.underlying t = some (.map k e))
    (b c : Nat) (f : FnK κ) (hm : a.eval m = .map (some b)) (hown : OwnK KK w b c f) (hK : wpList P ops Q rest (a.put o.dst (.int .i64 c)) w) : wpList P ops Q (o :: rest) a w := by
  obtain ⟨D, n, h, _, h1, h2, h3⟩ := hown
  refine wpList_len_own w hg m t hop k e ht RV b n D hm h ?_
  rw [h2]
  exact hK
end
end Go.Proofs.YtamoefnpfkcigaaDoor

/- Keys that are two strings. -/
namespace Go.Proofs.YtamoefnpfkcigaaDoor
open Go.RowKit

abbrev Pr := ByteArray × ByteArray
def prV (x : Pr) : Value := .agg #[.string x.1, .string x.2]
def prL (x : Pr) : Lit := .string (keyBytes [.string x.1.data.toList, .string x.2.data.toList])
def prOk (x : Pr) : Prop := x.1.size ≤ maxLen ∧ x.2.size ≤ maxLen
theorem prV_inj (x y : Pr) (h : prV x = prV y) : x = y := by
  obtain ⟨a, b⟩ := x
  obtain ⟨c, d⟩ := y
  simp [prV] at h
  rw [h.1, h.2]
theorem track_of (x : Pr) (h : prOk x) : keyOf Tryd.prog 115 (prV x) = some (prL x) := by
  obtain ⟨a, b⟩ := x
  have h1 : a.size ≤ maxLen := h.1
  have h2 : b.size ≤ maxLen := h.2
  have k1 : Tryd.prog.keyType 115 = true := by kernel_rfl
  have k2 : (prV (a, b)).formed Tryd.prog 115 = true := by kernel_rfl
  have k3 : Tryd.prog.keyLits (Tryd.prog.types.size + 1) 115 [.string a, .string b] = (((if a.size ≤ maxLen then some [Lit.string a.data.toList] else none) : Option (List Lit)).bind fun x => ((if b.size ≤ maxLen then some [Lit.string b.data.toList] else none) : Option (List Lit)).bind fun y => some [x, y]).map List.flatten := by kernel_rfl
  unfold keyOf
  rw [Tryd.underlying115]
  simp only [k1, k2, Bool.and_true, if_true]
  rw [show (prV (a, b)).cells.toList = [.string a, .string b] from rfl, k3, if_pos h1, if_pos h2]
  rfl
theorem track_keyed : Maps.Keyed Tryd.prog 115 := Maps.Keyed.of_law (deep_law_laid (by kernel_rfl) (m := 2) (by omega) (of_decide_eq_true (by kernel_rfl)) (by kernel_rfl) (by rw [Tryd.underlying115]))
/-- The program's keys. -/
def KT : KeyK Tryd.prog 115 Pr := ⟨prOk, prV, prL, track_keyed, track_of, prV_inj⟩
theorem arr2_of (x : Pr) (h : prOk x) : keyOf Tryd.prog 106 (prV x) = some (prL x) := by
  obtain ⟨a, b⟩ := x
  have h1 : a.size ≤ maxLen := h.1
  have h2 : b.size ≤ maxLen := h.2
  have k1 : Tryd.prog.keyType 106 = true := by kernel_rfl
  have k2 : (prV (a, b)).formed Tryd.prog 106 = true := by kernel_rfl
  have k3 : Tryd.prog.keyLits (Tryd.prog.types.size + 1) 106 [.string a, .string b] = (((if a.size ≤ maxLen then some [Lit.string a.data.toList] else none) : Option (List Lit)).bind fun x => ((if b.size ≤ maxLen then some [Lit.string b.data.toList] else none) : Option (List Lit)).bind fun y => some [x, y]).map List.flatten := by kernel_rfl
  unfold keyOf
  rw [Tryd.underlying106]
  simp only [k1, k2, Bool.and_true, if_true]
  rw [show (prV (a, b)).cells.toList = [.string a, .string b] from rfl, k3, if_pos h1, if_pos h2]
  rfl
theorem arr2_keyed : Maps.Keyed Tryd.prog 106 := Maps.Keyed.of_law (deep_law_laid (by kernel_rfl) (m := 2) (by omega) (of_decide_eq_true (by kernel_rfl)) (by kernel_rfl) (by rw [Tryd.underlying106]))
/-- The reference's keys. -/
def KA : KeyK Tryd.prog 106 Pr := ⟨prOk, prV, prL, arr2_keyed, arr2_of, prV_inj⟩
end Go.Proofs.YtamoefnpfkcigaaDoor

/- Doubles: toll.areDoubles, toll.Doubles, the reference's DoublesOf. Written by gendbl.py. -/
namespace Go.Proofs.YtamoefnpfkcigaaDoor
open Go.RowKit

theorem OwnX.apt {α : Type} {T T' : TypeId} {z g base : Nat} {c : α → Array Value} {w : World} {v : Value} {l : List α} {cs : Array Value} (h : OwnX T z c w base v l) (hB : Bk w g T' cs) (hT : T ≠ T') : some g ≠ v.ownBlock := by
  rcases h.2 with ⟨rfl, _⟩ | ⟨g', cap, cur, rfl, _, hg, _⟩
  · simp [Value.ownBlock]
  · intro e
    simp only [Value.ownBlock, Option.map_some, Option.some.injEq] at e
    subst e
    have h2 := hB.symm.trans hg
    simp only [Option.some.injEq, Obj.cells.injEq] at h2
    exact hT h2.2.1.symm
abbrev FI := Pr → Option Int
def isD (d : Int) (f : FI) (p : Pa) : Bool := match f (p.2.1, p.2.2.1) with | some t => decide (p.1 - t < d) | none => false
def putI (f : FI) (k : Pr) (n : Int) : FI := fun t => if t = k then some n else f t
def stp (d : Int) (s : FI × List Bool) (p : Pa) : FI × List Bool := if isD d s.1 p = true then (s.1, s.2 ++ [true]) else (putI s.1 (p.2.1, p.2.2.1) p.1, s.2 ++ [false])
def st (d : Int) (l : List Pa) : FI × List Bool := l.foldl (stp d) (fun _ => none, [])
def dbB (d : Int) (l : List Pa) : List Bool := (st d l).2
def sv2 (f : FI) : FnK Pr := fun k => (f k).map (fun n => .int .i64 n)
theorem st_take (d : Int) {l : List Pa} {k : Nat} {p : Pa} (h : l[k]? = some p) : st d (l.take (k + 1)) = stp d (st d (l.take k)) p := by
  unfold st
  rw [List.take_add_one, h, List.foldl_append]
  rfl
theorem st_len (d : Int) (l : List Pa) : (st d l).2.length = l.length := by
  have key : ∀ (r : List Pa) (s : FI × List Bool), (r.foldl (stp d) s).2.length = s.2.length + r.length := by
    intro r
    induction r with
    | nil => intro s; rfl
    | cons p r ih =>
      intro s
      rw [List.foldl_cons, ih, stp]
      split <;> simp <;> omega
  simpa [st] using key l (fun _ => none, [])
def BI (f : FI) : Prop := ∀ k t, f k = some t → 0 ≤ t ∧ t < 5761440
theorem st_bnd (d : Int) {l : List Pa} (h : ∀ p ∈ l, 0 ≤ p.1 ∧ p.1 < 5761440) : BI (st d l).1 := by
  have key : ∀ (r : List Pa) (s : FI × List Bool), (∀ p ∈ r, 0 ≤ p.1 ∧ p.1 < 5761440) → BI s.1 → BI (r.foldl (stp d) s).1 := by
    intro r
    induction r with
    | nil => intro s _ hs; exact hs
    | cons p r ih =>
      intro s hp hs
      rw [List.foldl_cons]
      refine ih _ (fun x hx => hp x (List.mem_cons_of_mem _ hx)) ?_
      unfold stp
      split
      · exact hs
      · intro k t ht
        simp only [putI] at ht
        split at ht
        · cases ht
          exact hp p (List.mem_cons_self ..)
        · exact hs k t ht
  exact key l _ h (fun k t ht => by cases ht)
theorem sv2_put (f : FI) (k : Pr) (n : Int) : fputK (sv2 f) k (.int .i64 n) = sv2 (putI f k n) := by
  funext t
  unfold fputK sv2 putI
  split <;> rfl
def dbK (d : Int) (l : List Pa) (k : Nat) : List Bool := (st d (l.take k)).2 ++ List.replicate (l.length - k) false
theorem dbK_0 (d : Int) (l : List Pa) : dbK d l 0 = List.replicate l.length false := by simp [dbK, st]
theorem dbK_all (d : Int) (l : List Pa) : dbK d l l.length = dbB d l := by simp [dbK, dbB]
theorem dbK_len (d : Int) {l : List Pa} {k : Nat} (hk : k ≤ l.length) : (dbK d l k).length = l.length := by
  rw [dbK, List.length_append, st_len, List.length_take, List.length_replicate]; omega
theorem dbK_t (d : Int) {l : List Pa} {k : Nat} {p : Pa} (h : l[k]? = some p) (hd : isD d (st d (l.take k)).1 p = true) : (dbK d l k).set k true = dbK d l (k + 1) := by
  have hk := (List.getElem?_eq_some_iff.1 h).1
  have hl : (st d (l.take k)).2.length = k := by rw [st_len, List.length_take]; omega
  unfold dbK
  rw [st_take d h, stp, if_pos hd, List.set_append_right _ _ (by omega), hl, Nat.sub_self, show l.length - k = (l.length - (k + 1)) + 1 by omega, List.replicate_succ, List.set_cons_zero, List.append_assoc]
  rfl
theorem dbK_f (d : Int) {l : List Pa} {k : Nat} {p : Pa} (h : l[k]? = some p) (hd : isD d (st d (l.take k)).1 p = false) : dbK d l k = dbK d l (k + 1) := by
  have hk := (List.getElem?_eq_some_iff.1 h).1
  unfold dbK
  rw [st_take d h, stp, if_neg (by simp [hd]), show l.length - k = (l.length - (k + 1)) + 1 by omega, List.replicate_succ, List.append_assoc]
  rfl
def bc (l : List Bool) : Array Value := (l.map Value.bool).toArray
theorem bc_set (l : List Bool) (k : Nat) (b : Bool) : (bc l).setIfInBounds k (.bool b) = bc (l.set k b) := by
  unfold bc
  apply Array.ext'
  simp [List.map_set]
theorem bc_at {l : List Bool} {k : Nat} {b : Bool} (h : l[k]? = some b) : (bc l)[k]? = some (.bool b) := by simp [bc, h]
theorem bkCells (n : Nat) : madeCells (Value.cells (.bool false)) n = bc (List.replicate n false) := by
  apply Array.ext
  · simp [madeCells, bc]
  · intro k h1 h2
    simp [madeCells, bc, Value.cells, Nat.mod_one]
theorem mkBools (n : Nat) (hn : n ≤ 1000) (w : World) : (Instr.makeSlice 97 (.int .i64 (n : Int)) (.int .i64 (n : Int))).run Tryd.prog w = .ok (.slice (some ⟨w.heap.size, 0, none⟩) n n) (w.alloc (.cells (bc (List.replicate n false)) 4)) := by
  obtain ⟨i0, hi, hz0, hz1, hz2⟩ := info_parts (show (Tryd.prog.info? 4).map (fun i => (i.zero, i.size, i.bytes)) = some (some (.bool false), 1, 1) by kernel_rfl)
  have h := run_make (P := Tryd.prog) w 97 4 i0 (.bool false) Tryd.underlying97 hi hz0 .i64 .i64 n n (by omega) (by omega) (by rw [hz2]; omega) (by omega)
  rw [h, hz1, Int.toNat_natCast, Nat.mul_one, bkCells]
theorem tk_info (x : Pr) : (Tryd.prog.info? 115).map (·.size) = some (#[.string x.1, .string x.2] : Array Value).size := (by kernel_rfl : (Tryd.prog.info? 115).map (·.size) = some 2)
theorem a2_info (x : Pr) : (Tryd.prog.info? 106).map (·.size) = some (#[.string x.1, .string x.2] : Array Value).size := (by kernel_rfl : (Tryd.prog.info? 106).map (·.size) = some 2)
theorem zi_run2 (w : World) : (zeroValue 3).run Tryd.prog w = .ok (.int .i64 0) w := by kernel_rfl
def numL (k : Nat) : List Bool → List Int
  | [] => []
  | b :: r => if b = true then (k : Int) :: numL (k + 1) r else numL (k + 1) r
theorem numL_snoc (k : Nat) (l : List Bool) (b : Bool) : numL k (l ++ [b]) = if b = true then numL k l ++ [((k + l.length : Nat) : Int)] else numL k l := by
  induction l generalizing k with
  | nil => cases b <;> simp [numL]
  | cons a r ih =>
    rw [List.cons_append, numL, ih, numL]
    have e : k + 1 + r.length = k + (a :: r).length := by simp; omega
    rw [e]
    cases a <;> cases b <;> simp
theorem numL_len (k : Nat) (l : List Bool) : (numL k l).length ≤ l.length := by
  induction l generalizing k with
  | nil => simp [numL]
  | cons a r ih =>
    rw [numL]
    have := ih (k + 1)
    split <;> simp <;> omega
def DbRel (w : World) (d : Int) (rc : Array Value) (l : List Pa) (gR gM gD : Nat) (i : Value) (wr : World) : Prop :=
  ∃ k c : Nat, k ≤ l.length ∧ i = .int .i64 k ∧ c ≤ k ∧ OwnK KT wr gM c (sv2 (st d (l.take k)).1) ∧ Bk wr gD 4 (bc (dbK d l k)) ∧ Bk wr gR 51 rc ∧ G w wr none
set_option maxRecDepth 100000 in
set_option maxHeartbeats 8000000 in
theorem areDoubles_c (x : Tr) (v : Value) (l : List Pa) (w : World) (hr : RdR w 4 paC v l) (hl : PaOk l) (hb : ∀ p ∈ l, 0 ≤ p.1 ∧ p.1 < 5761440) (hn : l.length ≤ 1000) :
    Calls Tryd.prog 54 #[.agg (trC x), v] w fun e w' => ∃ g : Nat, e = .returned (.slice (some ⟨g, 0, none⟩) l.length l.length) ∧ Bk w' g 4 (bc (dbB x.1 l)) ∧ G w w' none := by
  have HR := Lib.hid hr
  obtain ⟨a, cap, rfl, hcap, hm⟩ := RdR.form hr
  clear hr
  obtain ⟨d, q, f⟩ := x
  dsimp only
  have HPB := Lib.hid hb
  clear hb
  show Calls Tryd.prog 54 #[.agg #[.int .i64 d, .int .i64 q, .int .i64 f], .slice a l.length cap] w _
  have hB : Bk (w.alloc (.cells #[.int .i64 d, .int .i64 q, .int .i64 f] 51)) w.heap.size 51 #[.int .i64 d, .int .i64 q, .int .i64 f] := Bk.new _ _ _
  have hG := (G.refl w none).alloc (.cells #[.int .i64 d, .int .i64 q, .int .i64 f] 51)
  go_enter Tryd.func54, Tryd.ntmps54
  go_upto_region 1 with fail
  generalize w.alloc (.cells #[.int .i64 d, .int .i64 q, .int .i64 f] 51) = w1 at hB hG ⊢
  have hmm : ∀ (w : World), (Instr.makeMap 113 none).run Tryd.prog w = .ok (.map (some w.heap.size)) (w.alloc (.map #[] 0)) := fun _ => rfl
  have hM : OwnK KT (w1.alloc (.map #[] 0)) w1.heap.size 0 (fun _ => none) := OwnK.made w1 KT rfl
  have hB2 := hB.alloc (.map #[] 0)
  have hG2 := hG.alloc (.map #[] 0)
  have hgM := hG.size
  have hne0 : w.heap.size < w1.heap.size := hB.lt
  clear hB hG
  go_upto_region 2 with fail
  generalize w1.alloc (.map #[] 0) = w2 at hM hB2 hG2 ⊢
  generalize w1.heap.size = gM at hM hgM hne0 ⊢
  clear hmm
  have hmk := fun w => mkBools l.length hn w
  have hD : Bk (w2.alloc (.cells (bc (List.replicate l.length false)) 4)) w2.heap.size 4 (bc (List.replicate l.length false)) := Bk.new _ _ _
  have hM3 := hM.alloc (.cells (bc (List.replicate l.length false)) 4)
  have hB3 := hB2.alloc (.cells (bc (List.replicate l.length false)) 4)
  have hG3 := hG2.alloc (.cells (bc (List.replicate l.length false)) 4)
  have hgD := hG2.size
  have hne1 : gM < w2.heap.size := hM.lt
  have hne2 : w.heap.size < w2.heap.size := hB2.lt
  clear hM hB2 hG2
  go_upto_region 3 with fail
  generalize w2.alloc (.cells (bc (List.replicate l.length false)) 4) = w3 at hD hM3 hB3 hG3 ⊢
  generalize w2.heap.size = gD at hD hgD hne1 hne2 ⊢
  clear hmk
  rw [← dbK_0 d l] at hD
  go_wp2_with fail
  go_loopw [18] (DbRel w d #[.int .i64 d, .int .i64 q, .int .i64 f] l w.heap.size gM gD) (fun i _ => l.length - (intOf i).toNat)
  case atStart => exact ⟨0, 0, by omega, rfl, by omega, hM3, hD, hB3, hG3⟩
  case round =>
    clear hD hM3 hB3 hG3
    obtain ⟨k, cn, hkl, rfl, hcn, hM, hD, hB, hG⟩ := hrel
    by_cases hk : k < l.length
    · obtain ⟨⟨t, gk, y, c⟩, hp⟩ : ∃ p, l[k]? = some p := ⟨_, List.getElem?_eq_getElem hk⟩
      have hpm := List.mem_of_getElem? hp
      obtain ⟨t0b, t1b⟩ := HPB.out _ hpm
      obtain ⟨hs1, hs2⟩ := hl _ hpm
      dsimp only at hs1 hs2 t0b t1b
      unfold Small at hs1 hs2
      have HOK : Hid (KT.ok (gk, y)) := Lib.hid ⟨hs1, hs2⟩
      obtain ⟨bb, bo, rfl, hbb, _⟩ := RdR.elem paC_sz HR.out hG hp
      have HW := Lib.hid (paRow HR.out hG hp)
      have HST := Lib.hid (st_take d hp)
      have HBI := Lib.hid (st_bnd d (l := l.take k) (fun x hx => HPB.out x (List.mem_of_mem_take hx)))
      have hlk : (st d (l.take k)).2.length = k := by rw [st_len, List.length_take]; omega
      have HLK := Lib.hid hlk
      have HDT := Lib.hid (fun e => dbK_t d hp e)
      have HDF := Lib.hid (fun e => dbK_f d hp e)
      have hdl : (dbK d l k).length = l.length := dbK_len d (by omega)
      obtain ⟨bq, hbq⟩ : ∃ bq, (dbK d l k)[k]? = some bq := ⟨_, List.getElem?_eq_getElem (by omega)⟩
      have HDQ := Lib.hid (bc_at hbq)
      clear hbq hdl
      have HK := Lib.hid hk
      clear hlk
      have hB5 : Bk (wr.alloc (.cells #[.int .i64 t, .string gk, .string y, .int .i64 c] 90)) wr.heap.size 90 #[.int .i64 t, .string gk, .string y, .int .i64 c] := Bk.new wr 90 _
      have hG5 : G w (wr.alloc (.cells #[.int .i64 t, .string gk, .string y, .int .i64 c] 90)) none := hG.alloc (.cells (paC (t, gk, y, c)) 90)
      have hM5 := hM.alloc (.cells #[.int .i64 t, .string gk, .string y, .int .i64 c] 90)
      have hBR5 := hB.alloc (.cells #[.int .i64 t, .string gk, .string y, .int .i64 c] 90)
      have hD5 := hD.alloc (.cells #[.int .i64 t, .string gk, .string y, .int .i64 c] 90)
      have hgl := hM.lt
      have hwl := hB.lt
      have hdl := hD.lt
      clear hp hG hM hpm hB hD
      go_upto_region 6 with (refine wpList_load_at rfl 90 _ rfl ⟨bb, bo + k * 4, none⟩ rfl #[.int .i64 t, .string gk, .string y, .int .i64 c] _ HW.out Tryd.underlying90 rfl (pa_info (t, gk, y, c)) ?_)
      clear HW
      generalize wr.alloc (.cells #[.int .i64 t, .string gk, .string y, .int .i64 c] 90) = w5 at hB5 hG5 hM5 hBR5 hD5 ⊢
      generalize wr.heap.size = g5 at hB5 hgl hwl hdl ⊢
      have c1 : w5.cell? ⟨g5, 1, none⟩ = some (.string gk) := hB5.cell 1
      have c2 : w5.cell? ⟨g5, 2, none⟩ = some (.string y) := hB5.cell 2
      have hK6 : Bk (w5.alloc (.cells #[.string gk, .string y] 115)) w5.heap.size 115 #[.string gk, .string y] := Bk.new _ _ _
      have hB6 := hB5.alloc (.cells #[.string gk, .string y] 115)
      have hG6 := hG5.alloc (.cells #[.string gk, .string y] 115)
      have hM6 := hM5.alloc (.cells #[.string gk, .string y] 115)
      have hBR6 := hBR5.alloc (.cells #[.string gk, .string y] 115)
      have hD6 := hD5.alloc (.cells #[.string gk, .string y] 115)
      have hgl6 : gM < w5.heap.size := hM5.lt
      have hdl6 : gD < w5.heap.size := hD5.lt
      go_upto_region 7 with fail
      clear c1 c2 hB5 hG5 hM5 hBR5 hD5
      generalize w5.alloc (.cells #[.string gk, .string y] 115) = w6 at hK6 hB6 hG6 hM6 hBR6 hD6 ⊢
      generalize w5.heap.size = g6 at hK6 hgl6 hdl6 ⊢
      have c0 : w6.cell? ⟨g5, 0, none⟩ = some (.int .i64 t) := hB6.cell 0
      have r0 : w6.cell? ⟨w.heap.size, 0, none⟩ = some (.int .i64 d) := hBR6.cell 0
      have b0 : w6.cell? ⟨gD, k, none⟩ = some (.bool bq) := (hD6.cell k).trans HDQ.out
      have b1 : w6.frozen? ⟨gD, k, none⟩ = false := hD6.free k
      have hclt : cn < maxLen := by unfold maxLen; omega
      obtain ⟨S, hS⟩ : ∃ S, st d (l.take k) = S := ⟨_, rfl⟩
      rw [hS] at HST HBI HLK hM6 HDT HDF
      clear hS
      obtain ⟨F, acc⟩ := S
      dsimp only at HST HBI HLK hM6 HDT HDF
      have HPUT := Lib.hid (fun n : Int => sv2_put F (gk, y) n)
      have hFk : sv2 F (gk, y) = (F (gk, y)).map (fun n => .int .i64 n) := rfl
      cases hf : F (gk, y) with
      | none =>
        have hfs : sv2 F (gk, y) = none := by rw [hFk, hf]; rfl
        have HD0 : Hid (isD d F (t, gk, y, c) = false) := Lib.hid (by unfold isD; dsimp only; rw [hf])
        clear hFk hf
        go_wp2_with (first | (refine wpList_load_row rfl 115 _ rfl g6 rfl 115 #[.string gk, .string y] (0, 0) _ hK6 Tryd.underlying115 rfl (tk_info (gk, y)) ?_) | (at_lookup; refine wpK_look_ok (KK := KT) rfl _ _ 113 rfl 3 Tryd.underlying113 (.int .i64 0) (zi_run2 _) gM cn (sv2 F) rfl hM6 (gk, y) rfl HOK.out ?_; rw [hfs]) | (at_mapUpdate; refine wpK_store (KK := KT) rfl _ _ _ 113 rfl 3 Tryd.underlying113 gM cn (sv2 F) rfl hM6 hclt (gk, y) rfl HOK.out (.int .i64 t) rfl ?_; intro w7 hM7 hG7))
        rw [HPUT.out] at hM7
        have hcp : cputK cn (sv2 F) (gk, y) ≤ k + 1 := by unfold cputK; split <;> omega
        refine ⟨⟨k + 1, _, by have := HK.out; omega, by go_num, hcp, ?_, ?_, hBR6.grown hG7 (by intro e; have := Option.some.inj e; omega), ?_⟩, by have := HK.out; simp only [intOf]; omega⟩
        · rw [HST.out, stp, if_neg (by simp [HD0.out])]; exact hM7
        · rw [← HDF.out HD0.out]; exact hD6.grown hG7 (by intro e; have := Option.some.inj e; omega)
        · exact hG6.other hG7 (fun j e => .inl (by obtain rfl := Option.some.inj e; omega))
      | some t2 =>
        have hfs : sv2 F (gk, y) = some (.int .i64 t2) := by rw [hFk, hf]; rfl
        have htb := HBI.out _ _ hf
        obtain ⟨u0, u1⟩ := htb
        have hw : IntKind.i64.wrap (t - t2) = t - t2 := by rw [IntKind.wrap_i64]; omega
        by_cases hdd : t - t2 < d
        · have HD1 : Hid (isD d F (t, gk, y, c) = true) := Lib.hid (by unfold isD; dsimp only; rw [hf]; exact decide_eq_true hdd)
          clear hFk hf
          go_wp2_with (first | (refine wpList_load_row rfl 115 _ rfl g6 rfl 115 #[.string gk, .string y] (0, 0) _ hK6 Tryd.underlying115 rfl (tk_info (gk, y)) ?_) | (at_lookup; refine wpK_look_ok (KK := KT) rfl _ _ 113 rfl 3 Tryd.underlying113 (.int .i64 0) (zi_run2 _) gM cn (sv2 F) rfl hM6 (gk, y) rfl HOK.out ?_; rw [hfs]))
          go_roundw
          case rel => exact ⟨k + 1, cn, (by have := HK.out; omega), by go_num, by omega, (by rw [HST.out, stp, if_pos HD1.out]; exact hM6.setCell (by show gM ≠ gD; omega) _), (by rw [← HDT.out HD1.out, ← bc_set]; exact hD6.set k _), hBR6.far (by show w.heap.size ≠ gD; omega) _, hG6.setCell (.inl (by show w.heap.size ≤ gD; omega)) _⟩
          case measure => have := HK.out; simp [intOf]; omega
        · have HD0 : Hid (isD d F (t, gk, y, c) = false) := Lib.hid (by unfold isD; dsimp only; rw [hf]; exact decide_eq_false hdd)
          clear hFk hf
          go_wp2_with (first | (refine wpList_load_row rfl 115 _ rfl g6 rfl 115 #[.string gk, .string y] (0, 0) _ hK6 Tryd.underlying115 rfl (tk_info (gk, y)) ?_) | (at_lookup; refine wpK_look_ok (KK := KT) rfl _ _ 113 rfl 3 Tryd.underlying113 (.int .i64 0) (zi_run2 _) gM cn (sv2 F) rfl hM6 (gk, y) rfl HOK.out ?_; rw [hfs]) | (at_mapUpdate; refine wpK_store (KK := KT) rfl _ _ _ 113 rfl 3 Tryd.underlying113 gM cn (sv2 F) rfl hM6 hclt (gk, y) rfl HOK.out (.int .i64 t) rfl ?_; intro w7 hM7 hG7))
          rw [HPUT.out] at hM7
          have hcp : cputK cn (sv2 F) (gk, y) ≤ k + 1 := by unfold cputK; split <;> omega
          refine ⟨⟨k + 1, _, by have := HK.out; omega, by go_num, hcp, ?_, ?_, hBR6.grown hG7 (by intro e; have := Option.some.inj e; omega), ?_⟩, by have := HK.out; simp only [intOf]; omega⟩
          · rw [HST.out, stp, if_neg (by simp [HD0.out])]; exact hM7
          · rw [← HDF.out HD0.out]; exact hD6.grown hG7 (by intro e; have := Option.some.inj e; omega)
          · exact hG6.other hG7 (fun j e => .inl (by obtain rfl := Option.some.inj e; omega))
    · obtain rfl : k = l.length := by omega
      rw [dbK_all] at hD
      go_wp2_with fail
      go_ret
      exact ⟨gD, rfl, hD, hG⟩
def DrRel (w : World) (d : Int) (rc : Array Value) (l : List Pa) (gR gM base : Nat) (s6 i : Value) (wr : World) : Prop :=
  ∃ k c : Nat, k ≤ l.length ∧ i = .int .i64 k ∧ c ≤ k ∧ OwnK KA wr gM c (sv2 (st d (l.take k)).1) ∧ OwnIn wr base s6 (numL 0 (st d (l.take k)).2) ∧ Bk wr gR 51 rc ∧ G w wr none
theorem ownK_ne {w : World} {g c base : Nat} {f : FnK Pr} {v : Value} {l : List Int} (h : OwnK KA w g c f) (ho : OwnIn w base v l) : some g ≠ v.ownBlock := by
  rcases ho.2 with ⟨rfl, _⟩ | ⟨g', cap, cur, rfl, _, hg, _⟩
  · simp [Value.ownBlock]
  · intro e
    simp only [Value.ownBlock, Option.map_some, Option.some.injEq] at e
    subst e
    obtain ⟨D, n, h, -⟩ := h
    obtain ⟨es, clock, hb, -⟩ := h
    have h2 := hb.symm.trans hg
    cases h2
set_option maxRecDepth 100000 in
set_option maxHeartbeats 8000000 in
theorem doublesOf_c (x : Tr) (v : Value) (l : List Pa) (w : World) (hr : RdR w 4 paC v l) (hl : PaOk l) (hb : ∀ p ∈ l, 0 ≤ p.1 ∧ p.1 < 5761440) (hn : l.length ≤ 1000) :
    Calls Tryd.prog 28 #[.agg (trC x), v] w fun e w' => ∃ v', e = .returned v' ∧ RdI w' v' (numL 0 (dbB x.1 l)) ∧ G w w' none := by
  have HR := Lib.hid hr
  obtain ⟨a, cap, rfl, hcap, hm⟩ := RdR.form hr
  clear hr
  obtain ⟨d, q, f⟩ := x
  dsimp only
  have HPB := Lib.hid hb
  clear hb
  show Calls Tryd.prog 28 #[.agg #[.int .i64 d, .int .i64 q, .int .i64 f], .slice a l.length cap] w _
  have hB : Bk (w.alloc (.cells #[.int .i64 d, .int .i64 q, .int .i64 f] 51)) w.heap.size 51 #[.int .i64 d, .int .i64 q, .int .i64 f] := Bk.new _ _ _
  have hG := (G.refl w none).alloc (.cells #[.int .i64 d, .int .i64 q, .int .i64 f] 51)
  go_enter Tryd.func28, Tryd.ntmps28
  go_upto_region 1 with fail
  generalize w.alloc (.cells #[.int .i64 d, .int .i64 q, .int .i64 f] 51) = w1 at hB hG ⊢
  have hmm : ∀ (w : World), (Instr.makeMap 105 none).run Tryd.prog w = .ok (.map (some w.heap.size)) (w.alloc (.map #[] 0)) := fun _ => rfl
  have hM : OwnK KA (w1.alloc (.map #[] 0)) w1.heap.size 0 (fun _ => none) := OwnK.made w1 KA rfl
  have hB2 := hB.alloc (.map #[] 0)
  have hG2 := hG.alloc (.map #[] 0)
  have hgM := hG.size
  have hne0 : w.heap.size < w1.heap.size := hB.lt
  clear hB hG
  go_upto_region 2 with fail
  generalize w1.alloc (.map #[] 0) = w2 at hM hB2 hG2 ⊢
  generalize w1.heap.size = gM at hM hgM hne0 ⊢
  clear hmm
  have hM3 := hM
  have hB3 := hB2
  have hG3 := hG2
  clear hM hB2 hG2
  go_wp2_with fail
  go_loopw [6, 15] (DrRel w d #[.int .i64 d, .int .i64 q, .int .i64 f] l w.heap.size gM w.heap.size) (fun _ i _ => l.length - (intOf i).toNat)
  case atStart => exact ⟨0, 0, by omega, rfl, by omega, hM3, World.ownsRow_nil _ _ _ _, hB3, hG3⟩
  case round =>
    clear hM3 hB3 hG3
    obtain ⟨k, cn, hkl, rfl, hcn, hM, hown, hB, hG⟩ := hrel
    by_cases hk : k < l.length
    · obtain ⟨⟨t, gk, y, c⟩, hp⟩ : ∃ p, l[k]? = some p := ⟨_, List.getElem?_eq_getElem hk⟩
      have hpm := List.mem_of_getElem? hp
      obtain ⟨t0b, t1b⟩ := HPB.out _ hpm
      obtain ⟨hs1, hs2⟩ := hl _ hpm
      dsimp only at hs1 hs2 t0b t1b
      unfold Small at hs1 hs2
      have HOK : Hid (KA.ok (gk, y)) := Lib.hid ⟨hs1, hs2⟩
      obtain ⟨bb, bo, rfl, hbb, _⟩ := RdR.elem paC_sz HR.out hG hp
      have HW := Lib.hid (paRow HR.out hG hp)
      have HST := Lib.hid (st_take d hp)
      have HBI := Lib.hid (st_bnd d (l := l.take k) (fun x hx => HPB.out x (List.mem_of_mem_take hx)))
      have hlk : (st d (l.take k)).2.length = k := by rw [st_len, List.length_take]; omega
      have HLK := Lib.hid hlk
      have HK := Lib.hid hk
      clear hlk
      have hB5 : Bk (wr.alloc (.cells #[.int .i64 t, .string gk, .string y, .int .i64 c] 90)) wr.heap.size 90 #[.int .i64 t, .string gk, .string y, .int .i64 c] := Bk.new wr 90 _
      have hG5 : G w (wr.alloc (.cells #[.int .i64 t, .string gk, .string y, .int .i64 c] 90)) none := hG.alloc (.cells (paC (t, gk, y, c)) 90)
      have hM5 := hM.alloc (.cells #[.int .i64 t, .string gk, .string y, .int .i64 c] 90)
      have hBR5 := hB.alloc (.cells #[.int .i64 t, .string gk, .string y, .int .i64 c] 90)
      have hown5 := OwnX.alloc hown (.cells #[.int .i64 t, .string gk, .string y, .int .i64 c] 90)
      have hgl := hM.lt
      have hwl := hB.lt
      clear hp hG hM hpm hB hown
      go_upto_region 6 with (refine wpList_load_at rfl 90 _ rfl ⟨bb, bo + k * 4, none⟩ rfl #[.int .i64 t, .string gk, .string y, .int .i64 c] _ HW.out Tryd.underlying90 rfl (pa_info (t, gk, y, c)) ?_)
      clear HW
      generalize wr.alloc (.cells #[.int .i64 t, .string gk, .string y, .int .i64 c] 90) = w5 at hB5 hG5 hM5 hBR5 hown5 ⊢
      generalize wr.heap.size = g5 at hB5 hgl hwl ⊢
      have c1 : w5.cell? ⟨g5, 1, none⟩ = some (.string gk) := hB5.cell 1
      have c2 : w5.cell? ⟨g5, 2, none⟩ = some (.string y) := hB5.cell 2
      have hK6 : Bk (w5.alloc (.cells #[.string gk, .string y] 106)) w5.heap.size 106 #[.string gk, .string y] := Bk.new _ _ _
      have hB6 := hB5.alloc (.cells #[.string gk, .string y] 106)
      have hG6 := hG5.alloc (.cells #[.string gk, .string y] 106)
      have hM6 := hM5.alloc (.cells #[.string gk, .string y] 106)
      have hBR6 := hBR5.alloc (.cells #[.string gk, .string y] 106)
      have hown6 := OwnX.alloc hown5 (.cells #[.string gk, .string y] 106)
      have hgl6 : gM < w5.heap.size := hM5.lt
      go_upto_region 7 with fail
      clear c1 c2 hB5 hG5 hM5 hBR5 hown5
      generalize w5.alloc (.cells #[.string gk, .string y] 106) = w6 at hK6 hB6 hG6 hM6 hBR6 hown6 ⊢
      generalize w5.heap.size = g6 at hK6 hgl6 ⊢
      have c0 : w6.cell? ⟨g5, 0, none⟩ = some (.int .i64 t) := hB6.cell 0
      have r0 : w6.cell? ⟨w.heap.size, 0, none⟩ = some (.int .i64 d) := hBR6.cell 0
      have hclt : cn < maxLen := by unfold maxLen; omega
      obtain ⟨S, hS⟩ : ∃ S, st d (l.take k) = S := ⟨_, rfl⟩
      rw [hS] at HST HBI HLK hM6 hown6
      clear hS
      obtain ⟨F, acc⟩ := S
      dsimp only at HST HBI HLK hM6 hown6
      have HPUT := Lib.hid (fun n : Int => sv2_put F (gk, y) n)
      have hFk : sv2 F (gk, y) = (F (gk, y)).map (fun n => .int .i64 n) := rfl
      cases hf : F (gk, y) with
      | none =>
        have hfs : sv2 F (gk, y) = none := by rw [hFk, hf]; rfl
        have HD0 : Hid (isD d F (t, gk, y, c) = false) := Lib.hid (by unfold isD; dsimp only; rw [hf])
        clear hFk hf
        go_wp2_with (first | (refine wpList_load_row rfl 106 _ rfl g6 rfl 106 #[.string gk, .string y] (0, 0) _ hK6 Tryd.underlying106 rfl (a2_info (gk, y)) ?_) | (at_lookup; refine wpK_look_ok (KK := KA) rfl _ _ 105 rfl 3 Tryd.underlying105 (.int .i64 0) (zi_run2 _) gM cn (sv2 F) rfl hM6 (gk, y) rfl HOK.out ?_; rw [hfs]) | (at_mapUpdate; refine wpK_store (KK := KA) rfl _ _ _ 105 rfl 3 Tryd.underlying105 gM cn (sv2 F) rfl hM6 hclt (gk, y) rfl HOK.out (.int .i64 t) rfl ?_; intro w7 hM7 hG7))
        rw [HPUT.out] at hM7
        have hcp : cputK cn (sv2 F) (gk, y) ≤ k + 1 := by unfold cputK; split <;> omega
        refine ⟨⟨k + 1, _, by have := HK.out; omega, by go_num, hcp, ?_, ?_, hBR6.grown hG7 (by intro e; have := Option.some.inj e; omega), ?_⟩, by have := HK.out; simp only [intOf]; omega⟩
        · rw [HST.out, stp, if_neg (by simp [HD0.out])]; exact hM7
        · rw [HST.out, stp, if_neg (by simp [HD0.out]), numL_snoc, if_neg (by simp)]; exact World.ownsRow.kept hown6 hG7 (by have h9 := ownK_ne hM6 hown6; exact .inr (fun e => h9 e.symm))
        · exact hG6.other hG7 (fun j e => .inl (by obtain rfl := Option.some.inj e; omega))
      | some t2 =>
        have hfs : sv2 F (gk, y) = some (.int .i64 t2) := by rw [hFk, hf]; rfl
        have htb := HBI.out _ _ hf
        obtain ⟨u0, u1⟩ := htb
        have hw : IntKind.i64.wrap (t - t2) = t - t2 := by rw [IntKind.wrap_i64]; omega
        by_cases hdd : t - t2 < d
        · have HD1 : Hid (isD d F (t, gk, y, c) = true) := Lib.hid (by unfold isD; dsimp only; rw [hf]; exact decide_eq_true hdd)
          clear hFk hf
          have hownA := OwnX.alloc hown6 (.cells #[.int .i64 (k : Int)] 3)
          have hsz := hG6.size
          have hob := OwnX.low hown6
          have hnl := numL_len 0 acc
          have hkk : acc.length ≤ 1000 := by have := HLK.out; omega
          go_wp2_with (first | (refine wpList_load_row rfl 106 _ rfl g6 rfl 106 #[.string gk, .string y] (0, 0) _ hK6 Tryd.underlying106 rfl (a2_info (gk, y)) ?_) | (at_lookup; refine wpK_look_ok (KK := KA) rfl _ _ 105 rfl 3 Tryd.underlying105 (.int .i64 0) (zi_run2 _) gM cn (sv2 F) rfl hM6 (gk, y) rfl HOK.out ?_; rw [hfs]) | (at_builtin; refine wpList_plain rfl fun K' hK' => wp_append_x in_rowOk _ _ rfl w.heap.size u6 (numL 0 acc) rfl hownA w6.heap.size (k : Int) rfl (Bk.new w6 _ _) (by omega) (by simp; omega) ?_; intro v8 w8 hown8 hgrow; refine hK' _ _ ?_))
          go_roundw
          case rel => exact ⟨k + 1, cn, (by have := HK.out; omega), by go_num, by omega, (by rw [HST.out, stp, if_pos HD1.out]; exact (hM6.alloc _).grown hgrow (ownK_ne (hM6.alloc _) hownA)), (by rw [HST.out, stp, if_pos HD1.out, numL_snoc, if_pos rfl, HLK.out, Nat.zero_add]; exact hown8), (hBR6.alloc _).grown hgrow (OwnX.apt hownA (hBR6.alloc _) (by decide)), (hG6.alloc _).other hgrow (fun r e => .inl (hob r e))⟩
          case measure => have := HK.out; simp [intOf]; omega
        · have HD0 : Hid (isD d F (t, gk, y, c) = false) := Lib.hid (by unfold isD; dsimp only; rw [hf]; exact decide_eq_false hdd)
          clear hFk hf
          go_wp2_with (first | (refine wpList_load_row rfl 106 _ rfl g6 rfl 106 #[.string gk, .string y] (0, 0) _ hK6 Tryd.underlying106 rfl (a2_info (gk, y)) ?_) | (at_lookup; refine wpK_look_ok (KK := KA) rfl _ _ 105 rfl 3 Tryd.underlying105 (.int .i64 0) (zi_run2 _) gM cn (sv2 F) rfl hM6 (gk, y) rfl HOK.out ?_; rw [hfs]) | (at_mapUpdate; refine wpK_store (KK := KA) rfl _ _ _ 105 rfl 3 Tryd.underlying105 gM cn (sv2 F) rfl hM6 hclt (gk, y) rfl HOK.out (.int .i64 t) rfl ?_; intro w7 hM7 hG7))
          rw [HPUT.out] at hM7
          have hcp : cputK cn (sv2 F) (gk, y) ≤ k + 1 := by unfold cputK; split <;> omega
          refine ⟨⟨k + 1, _, by have := HK.out; omega, by go_num, hcp, ?_, ?_, hBR6.grown hG7 (by intro e; have := Option.some.inj e; omega), ?_⟩, by have := HK.out; simp only [intOf]; omega⟩
          · rw [HST.out, stp, if_neg (by simp [HD0.out])]; exact hM7
          · rw [HST.out, stp, if_neg (by simp [HD0.out]), numL_snoc, if_neg (by simp)]; exact World.ownsRow.kept hown6 hG7 (by have h9 := ownK_ne hM6 hown6; exact .inr (fun e => h9 e.symm))
          · exact hG6.other hG7 (fun j e => .inl (by obtain rfl := Option.some.inj e; omega))
    · obtain rfl : k = l.length := by omega
      rw [List.take_length] at hown
      go_wp2_with fail
      go_ret
      exact ⟨_, rfl, Rd.of_owns hown, hG⟩
end Go.Proofs.YtamoefnpfkcigaaDoor

/- toll.Doubles; the guard of stage 6 (tolled). Written by gendob.py. -/
namespace Go.Proofs.YtamoefnpfkcigaaDoor
open Go.RowKit

def dnR (x : Tr) (gs : List Ga) (l : List Pa) : List Int := if rdE x gs l = 0 then numL 0 (dbB x.1 l) else []
theorem rdE_pa {x : Tr} {gs : List Ga} {l : List Pa} (h : rdE x gs l = 0) : paE l = 0 := by
  unfold rdE at h
  split at h
  · unfold tcE at h
    split at h
    · split at h
      · assumption
      · exact h
    · rename_i h1
      exact absurd h h1
  · rename_i h1
    exact absurd h h1
theorem numL_take (l : List Bool) {k : Nat} {b : Bool} (h : l[k]? = some b) : numL 0 (l.take (k + 1)) = if b = true then numL 0 (l.take k) ++ [(k : Int)] else numL 0 (l.take k) := by
  have hk := (List.getElem?_eq_some_iff.1 h).1
  rw [List.take_add_one, h]
  show numL 0 (l.take k ++ [b]) = _
  rw [numL_snoc, List.length_take, Nat.min_eq_left (by omega), Nat.zero_add]
def DoRel (w : World) (bs : List Bool) (base g : Nat) (s9 i : Value) (wr : World) : Prop :=
  ∃ k : Nat, k ≤ bs.length ∧ i = .int .i64 k ∧ OwnIn wr base s9 (numL 0 (bs.take k)) ∧ Bk wr g 4 (bc bs) ∧ G w wr none
set_option maxRecDepth 100000 in
set_option maxHeartbeats 4000000 in
theorem doubles_c (x : Tr) (v v2 : Value) (gs : List Ga) (l : List Pa) (w : World) (hr : RdR w 3 gaC v gs) (hr2 : RdR w 4 paC v2 l) (hl : GaOk gs) (hl2 : PaOk l) (hn : gs.length ≤ 1000) (hn2 : l.length ≤ 1000000) :
    Calls Tryd.prog 22 #[v, .agg (trC x), v2] w fun e w' => ∃ v', e = .returned (.tuple #[v', .int .i64 (rdE x gs l)]) ∧ RdI w' v' (dnR x gs l) ∧ G w w' none := by
  obtain ⟨a, cap, rfl, hcap, hm⟩ := RdR.form hr
  obtain ⟨a2, cap2, rfl, hcap2, hm2⟩ := RdR.form hr2
  obtain ⟨E, hE⟩ : ∃ E, rdE x gs l = E := ⟨_, rfl⟩
  obtain ⟨XL, hXL⟩ : ∃ XL, dnR x gs l = XL := ⟨_, rfl⟩
  have HE := Lib.hid hE
  have HX : Hid (XL = if E = 0 then numL 0 (dbB x.1 l) else []) := Lib.hid (by rw [← hXL, ← hE]; rfl)
  rw [hE, hXL]
  clear hE hXL
  have CR := Lib.hid (fun w' (p : RdR w' 3 gaC (.slice a gs.length cap) gs) (p2 : RdR w' 4 paC (.slice a2 l.length cap2) l) => checkRuled_c x _ _ gs l w' p p2 hl hl2 hn hn2)
  have CA := Lib.hid (fun w' (p2 : RdR w' 4 paC (.slice a2 l.length cap2) l) hb hn => areDoubles_c x _ l w' p2 hl2 hb hn)
  obtain ⟨d, q, f⟩ := x
  show Calls Tryd.prog 22 #[.slice a gs.length cap, .agg #[.int .i64 d, .int .i64 q, .int .i64 f], .slice a2 l.length cap2] w _
  have hB : Bk (w.alloc (.cells #[.int .i64 d, .int .i64 q, .int .i64 f] 51)) w.heap.size 51 #[.int .i64 d, .int .i64 q, .int .i64 f] := Bk.new _ _ _
  have hG := (G.refl w none).alloc (.cells #[.int .i64 d, .int .i64 q, .int .i64 f] 51)
  go_enter Tryd.func22, Tryd.ntmps22
  go_upto_region 1 with fail
  generalize w.alloc (.cells #[.int .i64 d, .int .i64 q, .int .i64 f] 51) = w1 at hB hG ⊢
  generalize w.heap.size = g at hB ⊢
  go_wp2_with (refine wpList_load_row rfl 51 _ rfl g rfl 51 #[.int .i64 d, .int .i64 q, .int .i64 f] (0, 0) _ hB Tryd.underlying51 rfl (tr_info (d, q, f)) ?_)
  refine (CR.out _ (hr.quiet hG) (hr2.quiet hG)).mono ?_; rintro e w2 ⟨rfl, hh⟩
  rw [HE.out]
  replace hr2 := (hr2.quiet hG).quiet hh
  replace hB := hB.quiet hh
  replace hG := hG.trans hh
  clear hh hr CR
  by_cases e1 : E = 0
  · subst e1
    obtain ⟨hpb, hpl⟩ := paE_ok (rdE_pa HE.out)
    have HPB := Lib.hid hpb
    have HX1 : Hid (XL = numL 0 (dbB d l)) := Lib.hid (by rw [HX.out, if_pos rfl])
    clear hpb HX
    go_wp2_with (refine wpList_load_row rfl 51 _ rfl g rfl 51 #[.int .i64 d, .int .i64 q, .int .i64 f] (0, 0) _ hB Tryd.underlying51 rfl (tr_info (d, q, f)) ?_)
    refine (CA.out _ hr2 HPB.out hpl).mono ?_; rintro e w3 ⟨gB, rfl, hBB, hh⟩
    replace hG := hG.trans hh
    clear hh hB hr2 CA
    obtain ⟨bs, hbs⟩ : ∃ bs, dbB d l = bs := ⟨_, rfl⟩
    have hbl : bs.length = l.length := by rw [← hbs]; exact st_len d l
    rw [hbs] at hBB HX1
    clear hbs
    rw [← hbl]
    have hbl2 : bs.length ≤ 1000 := by omega
    clear hbl
    have hsz := hG.size
    go_wp2_with fail
    go_loopw [9, 23] (DoRel w3 bs w3.heap.size gB) (fun _ i _ => bs.length - (intOf i).toNat)
    case atStart => exact ⟨0, by omega, rfl, World.ownsRow_nil _ _ _ _, hBB, G.refl _ _⟩
    case round =>
      clear hBB
      obtain ⟨k, hk, rfl, hown, hBB, hGr⟩ := hrel
      by_cases hlt : k < bs.length
      · obtain ⟨b, hb⟩ : ∃ b, bs[k]? = some b := ⟨_, List.getElem?_eq_getElem hlt⟩
        have HT := Lib.hid (numL_take bs hb)
        have c0 : wr.cell? ⟨gB, k, none⟩ = some (.bool b) := (hBB.cell k).trans (bc_at hb)
        have HK := Lib.hid hlt
        have hkl : (k : Int) < (bs.length : Int) := by omega
        have hnl := numL_len 0 (bs.take k)
        have htk : (bs.take k).length ≤ 1000 := by rw [List.length_take]; omega
        clear hb
        cases b with
        | false =>
          have HN : Hid (numL 0 (bs.take (k + 1)) = numL 0 (bs.take k)) := Lib.hid (by rw [HT.out, if_neg (by simp)])
          go_wp2_with fail
          go_roundw
          case rel => exact ⟨k + 1, (by have := HK.out; omega), by go_num, (by rw [HN.out]; exact hown), hBB, hGr⟩
          case measure => have := HK.out; simp [intOf]; omega
        | true =>
          have HN : Hid (numL 0 (bs.take (k + 1)) = numL 0 (bs.take k) ++ [(k : Int)]) := Lib.hid (by rw [HT.out, if_pos rfl])
          have hownA := OwnX.alloc hown (.cells #[.int .i64 (k : Int)] 3)
          have hob := OwnX.low hown
          have hsr := hGr.size
          obtain ⟨NL, hNL⟩ : ∃ NL, numL 0 (bs.take k) = NL := ⟨_, rfl⟩
          rw [hNL] at hownA HN hnl
          clear hNL hown
          go_wp2_with (at_builtin; refine wpList_plain rfl fun K' hK' => wp_append_x in_rowOk _ _ rfl w3.heap.size u9 NL rfl hownA wr.heap.size (k : Int) rfl (Bk.new wr _ _) (by omega) (by simp; omega) ?_; intro v8 w8 hown8 hgrow; refine hK' _ _ ?_)
          go_roundw
          case rel => exact ⟨k + 1, (by have := HK.out; omega), by go_num, (by rw [HN.out]; exact hown8), (hBB.alloc _).grown hgrow (OwnX.apt hownA (hBB.alloc _) (by decide)), (hGr.alloc _).other hgrow (fun r e => .inl (hob r e))⟩
          case measure => have := HK.out; simp [intOf]; omega
      · obtain rfl : k = bs.length := by omega
        rw [List.take_length] at hown
        obtain rfl : XL = numL 0 bs := HX1.out
        go_wp2_with fail
        go_ret2
        exact ⟨_, rfl, Rd.of_owns hown, hG.trans hGr⟩
  · obtain rfl : XL = [] := by rw [HX.out, if_neg e1]
    have hb : (E != 0) = true := bne_iff_ne.2 e1
    clear e1 HX
    go_wp2_with fail
    go_ret2
    exact ⟨_, rfl, RdR.nil _ _ _, hG⟩
/-! ### tolled -/
def tG : List Ga := [(⟨#[103]⟩, ⟨#[97]⟩, 0)]
def tP : List Pa := [(1, ⟨#[103]⟩, ⟨#[65, 65]⟩, 0), (2, ⟨#[103]⟩, ⟨#[65, 65]⟩, 0)]
theorem tolled_at : rdE (5, 0, 0) tG tP = 0 ∧ numL 0 (dbB 5 tP) = [1] := by decide +kernel
theorem tG_ok : GaOk tG := fun x hx => by
  simp only [tG, List.mem_cons, List.mem_nil_iff, or_false] at hx
  subst hx
  exact ⟨small_of (s := ⟨#[103]⟩) (by decide), small_of (s := ⟨#[97]⟩) (by decide)⟩
theorem tP_ok : PaOk tP := fun x hx => by
  simp only [tP, List.mem_cons, List.mem_nil_iff, or_false] at hx
  rcases hx with rfl | rfl <;> exact ⟨small_of (s := ⟨#[103]⟩) (by decide), small_of (s := ⟨#[65, 65]⟩) (by decide)⟩
set_option maxRecDepth 100000 in
set_option maxHeartbeats 4000000 in
theorem tolled_c (w : World) : Calls Tryd.prog 27 #[] w fun e w' => e = .returned (.bool true) ∧ G w w' none := by
  have hP : RdR (w.alloc (.cells #[.int .i64 1, .string ⟨#[103]⟩, .string ⟨#[65, 65]⟩, .int .i64 0, .int .i64 2, .string ⟨#[103]⟩, .string ⟨#[65, 65]⟩, .int .i64 0] 90)) 4 paC (.slice (some ⟨w.heap.size, 0, none⟩) 2 2) tP := (Bk.new w 90 #[.int .i64 1, .string ⟨#[103]⟩, .string ⟨#[65, 65]⟩, .int .i64 0, .int .i64 2, .string ⟨#[103]⟩, .string ⟨#[65, 65]⟩, .int .i64 0]).rd 4 2 rfl (by omega)
  have hG1 := (G.refl w none).alloc (.cells #[.int .i64 1, .string ⟨#[103]⟩, .string ⟨#[65, 65]⟩, .int .i64 0, .int .i64 2, .string ⟨#[103]⟩, .string ⟨#[65, 65]⟩, .int .i64 0] 90)
  go_enter Tryd.func27, Tryd.ntmps27
  go_upto_region 2 with fail
  generalize w.alloc (.cells #[.int .i64 1, .string ⟨#[103]⟩, .string ⟨#[65, 65]⟩, .int .i64 0, .int .i64 2, .string ⟨#[103]⟩, .string ⟨#[65, 65]⟩, .int .i64 0] 90) = w1 at hP hG1 ⊢
  generalize w.heap.size = g at hP ⊢
  have hGt : RdR (w1.alloc (.cells #[.string ⟨#[103]⟩, .string ⟨#[97]⟩, .int .i64 0] 88)) 3 gaC (.slice (some ⟨w1.heap.size, 0, none⟩) 1 1) tG := (Bk.new w1 88 #[.string ⟨#[103]⟩, .string ⟨#[97]⟩, .int .i64 0]).rd 3 1 rfl (by omega)
  have hh := (G.refl w1 none).alloc (.cells #[.string ⟨#[103]⟩, .string ⟨#[97]⟩, .int .i64 0] 88)
  have hP2 := hP.quiet hh
  have hG2 := hG1.trans hh
  clear hP hG1 hh
  go_wp2_with fail
  generalize w1.alloc (.cells #[.string ⟨#[103]⟩, .string ⟨#[97]⟩, .int .i64 0] 88) = w2 at hGt hP2 hG2 ⊢
  refine (doubles_c (5, 0, 0) _ _ tG tP _ hGt hP2 tG_ok tP_ok (by decide) (by decide)).mono ?_; rintro e w3 ⟨v, rfl, hR, hh⟩
  have hG3 := hG2.trans hh
  unfold dnR at hR
  rw [if_pos tolled_at.1, tolled_at.2] at hR
  rw [tolled_at.1]
  clear hGt hP2 hG2 hh
  obtain ⟨a, c, rfl, -, -⟩ := RdR.form (c := inC) hR
  have hR2 := Rd.quiet hR ((G.refl w3 none).alloc (.cells #[.int .i64 1] 3))
  go_wp2_with fail
  refine (inEqual_c _ _ [1] _ hR2 (Rd.new (T := 3) #[.int .i64 1] rfl (by show 1 ≤ maxLen; decide)) (by simp)).mono ?_; rintro e w4 ⟨rfl, hh⟩
  go_wp2_with fail
  go_ret
  exact ⟨rfl, (hG3.alloc _).trans hh⟩
end Go.Proofs.YtamoefnpfkcigaaDoor

/- Generators: TollRules, Charges. Written by gengtl.py. -/
namespace Go.Proofs.YtamoefnpfkcigaaDoor
open Go.RowKit

def TrPost (s K : Nat) (w : World) (e : Ending) (w' : World) : Prop :=
  ∃ x : Tr, e = .returned (.agg (trC x)) ∧ SB w' s (K + 16) ∧ G w w' (some s)
theorem tollRulesG_c_one (x : Tr) : (trC x).all (·.oneCell') = true := by simp [trC, Value.oneCell']
theorem tollRulesG_c_fin {w w3 : World} {s K : Nat} {x : Tr} (hs : s < w.heap.size) (hSB : SB w3 s (K + 16)) (hG : G w w3 (some s)) :
    TrPost s K w (.returned (.agg (trC x))) (w3.setRow w.heap.size (trC x)) :=
  ⟨x, rfl, hSB.setRow hs _, hG.setRow (.inl (Nat.le_refl _)) _⟩
set_option maxRecDepth 100000 in
set_option maxHeartbeats 4000000 in
theorem tollRulesG_c (w : World) (s : Nat) (K : Nat) (hs : SB w s K) (hk : K ≤ 900000000000) :
    Calls Tryd.prog 19 #[.pointer (some ⟨s, 0, none⟩)] w (TrPost s K w) := by
  have hslt := hs.lt
  go_enter Tryd.func19, Tryd.ntmps19
  go_wp2_with fail
  refine (pick_c _ _ _ [0, 1, 6, 10, 60] _ _ K ((hs.alloc _).alloc _) (by omega) (by decide) (by decide) (Rd.newAt _ (by simp) rfl (by decide)) (hs.newAt _ _ _ (by omega))).mono ?_
  rintro e w1 ⟨a0, rfl, hp, hSB1, hG1⟩
  have hz1 : w.heap.size + 2 ≤ w1.heap.size := by have := hG1.size; simp at this; omega
  have hB1 := ((Bk.new w 51 #[.int .i64 0, .int .i64 0, .int .i64 0]).alloc (.cells _ 3)).grown hG1 (by simp; omega)
  have hG01 : G w w1 (some s) := (((G.refl w (some s)).alloc _).alloc _).trans hG1
  clear hG1 hp hz1
  go_wp2_with fail
  refine (pick_c _ _ _ [-1, 0, 50, 100, 1000] _ _ _ (hSB1.alloc _) (by omega) (by decide) (by decide) (Rd.newAt _ rfl rfl (by decide)) (hSB1.newAt _ _ _ (Nat.le_refl _))).mono ?_
  rintro e w2 ⟨a1, rfl, hp, hSB2, hG2⟩
  have hB2 := (hB1.alloc (.cells _ 3)).grown hG2 (fun e => by have := Option.some.inj e; omega)
  have hG02 := (hG01.alloc _).trans hG2
  clear hG2 hp hB1 hG01 hSB1
  go_wp2_with fail
  refine (pick_c _ _ _ [0, 9] _ _ _ (hSB2.alloc _) (by omega) (by decide) (by decide) (Rd.newAt _ rfl rfl (by decide)) (hSB2.newAt _ _ _ (Nat.le_refl _))).mono ?_
  rintro e w3 ⟨a2, rfl, hp, hSB3, hG3⟩
  have hB3 := (hB2.alloc (.cells _ 3)).grown hG3 (fun e => by have := Option.some.inj e; omega)
  have hG03 := (hG02.alloc _).trans hG3
  clear hG3 hp hB2 hG02 hSB2
  have hN4 := Bk.new w3 51 #[.int .i64 a0, .int .i64 a1, .int .i64 a2]
  have hSB4 := hSB3.alloc (.cells #[.int .i64 a0, .int .i64 a1, .int .i64 a2] 51)
  have hB4 := hB3.alloc (.cells #[.int .i64 a0, .int .i64 a1, .int .i64 a2] 51)
  have hG04 := hG03.alloc (.cells #[.int .i64 a0, .int .i64 a1, .int .i64 a2] 51)
  have hs7 := hSB3.lt
  have hl7 := hB3.lt
  have hgw : w.heap.size ≤ w3.heap.size := hG03.size
  clear hB3 hG03 hSB3
  go_wp2_with fail
  generalize w3.alloc (.cells #[.int .i64 a0, .int .i64 a1, .int .i64 a2] 51) = w4 at hN4 hSB4 hB4 hG04 ⊢
  generalize w3.heap.size = g at hN4 hs7 hl7 hgw ⊢
  refine (flip_c _ _ _ _ hSB4 (by omega) (by omega)).mono ?_; rintro e w9 ⟨q, rfl, hSB9, hG9⟩
  have hN9 := hN4.grown hG9 (fun e => by have := Option.some.inj e; omega)
  have hB9 := hB4.grown hG9 (fun e => by have := Option.some.inj e; omega)
  have hG09 := hG04.trans hG9
  clear hN4 hB4 hG04 hG9 hSB4
  cases q with
  | false =>
    go_wp2_with (first | (refine wpList_load_row rfl 51 _ rfl g rfl 51 #[.int .i64 a0, .int .i64 a1, .int .i64 a2] (0, 0) _ hN9 Tryd.underlying51 rfl (tr_info ⟨a0, a1, a2⟩) ?_) | (refine wpList_store_row rfl 51 _ _ rfl w.heap.size #[.int .i64 a0, .int .i64 a1, .int .i64 a2] rfl rfl 51 _ hB9 (tr_info ⟨a0, a1, a2⟩) rfl (tollRulesG_c_one ⟨a0, a1, a2⟩) ?_) | (refine wpList_load_row rfl 51 _ rfl w.heap.size rfl 51 #[.int .i64 a0, .int .i64 a1, .int .i64 a2] (0, 0) _ (hB9.setRow _) Tryd.underlying51 rfl (tr_info ⟨a0, a1, a2⟩) ?_))
    refine bodyPost_ret (results_cell_row rfl _ _ w.heap.size 51 #[.int .i64 a0, .int .i64 a1, .int .i64 a2] (0, 0) _ rfl (hB9.setRow _) Tryd.underlying51 rfl (tr_info ⟨a0, a1, a2⟩)) rfl ?_
    exact tollRulesG_c_fin (x := ⟨a0, a1, a2⟩) hslt (hSB9.le (by omega)) hG09
  | true =>
    go_wp2_with fail
    refine (odd_c _ _ _ _ _ hSB9 (by omega) (by omega) (by omega) (by omega) (by omega)).mono ?_; rintro e wb ⟨b0, rfl, y0, y1, hSBb, hGb⟩
    have hNb := hN9.grown hGb (fun e => by have := Option.some.inj e; omega)
    have hBb := hB9.grown hGb (fun e => by have := Option.some.inj e; omega)
    have hG0b := hG09.trans hGb
    clear hN9 hB9 hG09 hGb hSB9 y0 y1
    go_wp2_with fail
    refine (odd_c _ _ _ _ _ hSBb (by omega) (by omega) (by omega) (by omega) (by omega)).mono ?_; rintro e wc ⟨b1, rfl, y0, y1, hSBc, hGc⟩
    have hNc := hNb.grown hGc (fun e => by have := Option.some.inj e; omega)
    have hBc := hBb.grown hGc (fun e => by have := Option.some.inj e; omega)
    have hG0c := hG0b.trans hGc
    clear hNb hBb hG0b hGc hSBb y0 y1
    go_wp2_with fail
    refine (odd_c _ _ _ _ _ hSBc (by omega) (by omega) (by omega) (by omega) (by omega)).mono ?_; rintro e wd ⟨b2, rfl, y0, y1, hSBd, hGd⟩
    have hNd := hNc.grown hGd (fun e => by have := Option.some.inj e; omega)
    have hBd := hBc.grown hGd (fun e => by have := Option.some.inj e; omega)
    have hG0d := hG0c.trans hGd
    clear hNc hBc hG0c hGd hSBc y0 y1
    have n0 : wd.cell? ⟨g, 0, none⟩ = some (.int .i64 a0) := hNd.cell 0
    have n1 : wd.cell? ⟨g, 1, none⟩ = some (.int .i64 a1) := hNd.cell 1
    have n2 : wd.cell? ⟨g, 2, none⟩ = some (.int .i64 a2) := hNd.cell 2
    have x0 := hNd.free 0
    have x1 := hNd.free 1
    have x2 := hNd.free 2
    go_upto_region 4 with fail
    have hNe : Bk (((wd.setCell ⟨g, 0, none⟩ (.int .i64 b0)).setCell ⟨g, 1, none⟩ (.int .i64 b1)).setCell ⟨g, 2, none⟩ (.int .i64 b2)) g 51 #[.int .i64 b0, .int .i64 b1, .int .i64 b2] := (((hNd.set 0 _).set 1 _).set 2 _)
    have hBe := (((hBd.far (p := ⟨g, 0, none⟩) (show w.heap.size ≠ g by omega) (.int .i64 b0)).far (p := ⟨g, 1, none⟩) (show w.heap.size ≠ g by omega) (.int .i64 b1)).far (p := ⟨g, 2, none⟩) (show w.heap.size ≠ g by omega) (.int .i64 b2))
    have hSBe := (((hSBd.setCell (p := ⟨g, 0, none⟩) hs7 (.int .i64 b0)).setCell (p := ⟨g, 1, none⟩) hs7 (.int .i64 b1)).setCell (p := ⟨g, 2, none⟩) hs7 (.int .i64 b2))
    have hG0e := (((hG0d.setCell (p := ⟨g, 0, none⟩) (.inl hgw) (.int .i64 b0)).setCell (p := ⟨g, 1, none⟩) (.inl hgw) (.int .i64 b1)).setCell (p := ⟨g, 2, none⟩) (.inl hgw) (.int .i64 b2))
    generalize (((wd.setCell ⟨g, 0, none⟩ (.int .i64 b0)).setCell ⟨g, 1, none⟩ (.int .i64 b1)).setCell ⟨g, 2, none⟩ (.int .i64 b2)) = we at hNe hBe hSBe hG0e ⊢
    clear hNd hBd hSBd hG0d n0 n1 n2 x0 x1 x2
    go_wp2_with (first | (refine wpList_load_row rfl 51 _ rfl g rfl 51 #[.int .i64 b0, .int .i64 b1, .int .i64 b2] (0, 0) _ hNe Tryd.underlying51 rfl (tr_info ⟨b0, b1, b2⟩) ?_) | (refine wpList_store_row rfl 51 _ _ rfl w.heap.size #[.int .i64 b0, .int .i64 b1, .int .i64 b2] rfl rfl 51 _ hBe (tr_info ⟨b0, b1, b2⟩) rfl (tollRulesG_c_one ⟨b0, b1, b2⟩) ?_) | (refine wpList_load_row rfl 51 _ rfl w.heap.size rfl 51 #[.int .i64 b0, .int .i64 b1, .int .i64 b2] (0, 0) _ (hBe.setRow _) Tryd.underlying51 rfl (tr_info ⟨b0, b1, b2⟩) ?_))
    refine bodyPost_ret (results_cell_row rfl _ _ w.heap.size 51 #[.int .i64 b0, .int .i64 b1, .int .i64 b2] (0, 0) _ rfl (hBe.setRow _) Tryd.underlying51 rfl (tr_info ⟨b0, b1, b2⟩)) rfl ?_
    exact tollRulesG_c_fin (x := ⟨b0, b1, b2⟩) hslt (hSBe.le (by omega)) hG0e
theorem cg_oneL (r : Cg) : ∀ u ∈ (cgC r).toList, u.oneCell' = true := by
  intro u hu
  simp [cgC] at hu
  rcases hu with rfl | rfl | rfl | rfl <;> rfl
theorem cg_one (x : Cg) : (cgC x).all (·.oneCell') = true := by simp [cgC, Value.oneCell']
theorem cg_rowOk : RowOk Tryd.prog 108 61 4 48 (.agg #[.string ⟨#[]⟩, .string ⟨#[]⟩, .int .i64 0, .int .i64 0]) cgC := ⟨by kernel_rfl, Tryd.underlying61, cg_oneL, cgC_sz, rfl, by omega, by omega⟩
abbrev OwnCg (w : World) (base : Nat) (v : Value) (l : List Cg) : Prop := OwnX 108 4 cgC w base v l
theorem CgOk.snoc {l : List Cg} {r : Cg} (h : CgOk l) (hr : Small r.1 ∧ Small r.2.1) : CgOk (l ++ [r]) := fun p hp => by
  rcases List.mem_append.1 hp with hp | hp
  · exact h p hp
  · obtain rfl := List.mem_singleton.1 hp
    exact hr
theorem CgOk.set {l : List Cg} (h : CgOk l) {r : Cg} (hr : Small r.1 ∧ Small r.2.1) (k : Nat) : CgOk (l.set k r) := fun p hp => by
  rcases List.mem_or_eq_of_mem_set hp with hp | rfl
  · exact h p hp
  · exact hr
def ChgPost (s K : Nat) (w : World) (e : Ending) (w' : World) : Prop :=
  ∃ (v : Value) (l : List Cg), e = .returned v ∧ OwnCg w' w.heap.size v l ∧ CgOk l ∧ l.length ≤ 6 ∧ SB w' s (K + 30) ∧ G w w' (some s)
def ChgRel (w : World) (s K n : Nat) (s3 s7 : Value) (wr : World) : Prop :=
  ∃ (k : Nat) (l : List Cg), k ≤ n ∧ l.length = k ∧ s7 = .int .i64 k ∧ OwnCg wr w.heap.size s3 l ∧ CgOk l ∧ SB wr s (K + 1 + 3 * k) ∧ G w wr (some s)
theorem cg_there {w : World} {base g cap : Nat} {l : List Cg} {j : Nat} {a b : ByteArray} {y z : Int} (h : OwnCg w base (.slice (some ⟨g, 0, none⟩) l.length cap) l) (hj : j < l.length) : w.there g (j * 4) (#[.string a, .string b, .int .i64 y, .int .i64 z] : Array Value).size := fun i hi => by
  have hi4 : i < 4 := hi
  have h1 := World.ownsRow.cellAt h (j * 4 + i) (by omega)
  have hl : (rowL cgC l).length = l.length * 4 := h.1
  rw [List.getElem?_eq_getElem (by rw [hl]; omega)] at h1
  refine ⟨?_, World.ownsRow.frozenAt h _⟩
  first | exact ⟨_, h1⟩ | (rw [h1]; rfl) | (rw [h1]; simp)
set_option maxRecDepth 100000 in
set_option maxHeartbeats 4000000 in
theorem charges_c (w : World) (s : Nat) (K : Nat) (hs : SB w s K) (hk : K ≤ 600000000000) :
    Calls Tryd.prog 29 #[.pointer (some ⟨s, 0, none⟩)] w (ChgPost s K w) := by
  have hsw := hs.lt
  go_enter Tryd.func29, Tryd.ntmps29
  go_wp2_with fail
  refine (range_c 0 6 _ s K hs (by omega) (by omega) (by omega) (by omega)).mono ?_; rintro e w2 ⟨n, rfl, hn1, hn2, hSB2, hG2⟩
  obtain ⟨n, rfl⟩ : ∃ m : Nat, n = m := ⟨n.toNat, by omega⟩
  have HN := Lib.hid (show n ≤ 6 by omega)
  clear hn1 hn2 hs
  go_wp2_with fail
  go_loopw [3, 7] (ChgRel w s K n) (fun _ i _ => n - (intOf i).toNat)
  case atStart => exact ⟨0, [], by omega, rfl, rfl, World.ownsRow_nil _ _ _ _, fun x hx => (by cases hx), hSB2, hG2⟩
  case round =>
    clear hSB2 hG2
    obtain ⟨k, l, hkn, hlk, rfl, hown, hok, hSB, hG⟩ := hrel
    by_cases hlt : k < n
    · have HOK := Lib.hid hok
      have HLK := Lib.hid hlk
      have HKN := Lib.hid hlt
      have hk6 : k < 6 := by have := HN.out; omega
      have hwk : IntKind.i64.wrap ((k : Int) + 1) = (k : Int) + 1 := by rw [IntKind.wrap_i64]; omega
      have hwk2 : IntKind.i64.wrap (2 * (k : Int)) = 2 * (k : Int) := by rw [IntKind.wrap_i64]; omega
      clear hok hlk
      go_wp2_with fail
      refine (some_c _ _ _ [⟨#[]⟩, ⟨#[104, 49]⟩, ⟨#[104, 49]⟩, ⟨#[104, 50]⟩] _ _ _ (hSB.alloc _) (by have := HN.out; omega) (by decide) (by decide) (Rd.newAt _ rfl rfl (by decide)) (hSB.newAt _ _ _ (Nat.le_refl _))).mono ?_; rintro e w4 ⟨h1, rfl, hp, hSB4, hg⟩
      have HH1 := Lib.hid (small_pick hp (by decide))
      have hh := ((G.refl wr (some s)).alloc (.cells _ 9)).trans hg
      have hown4 := OwnX.kept hown hh hsw
      have hG4 := hG.trans hh
      clear hown hG hSB hg hh hp
      go_wp2_with fail
      refine (some_c _ _ _ [⟨#[]⟩, ⟨#[118, 49]⟩] _ _ _ (hSB4.alloc _) (by have := HN.out; omega) (by decide) (by decide) (Rd.newAt _ rfl rfl (by decide)) (hSB4.newAt _ _ _ (Nat.le_refl _))).mono ?_; rintro e w5 ⟨h2, rfl, hp, hSB5, hg⟩
      have HH2 := Lib.hid (small_pick hp (by decide))
      have hh := ((G.refl w4 (some s)).alloc (.cells _ 9)).trans hg
      have hown5 := OwnX.kept hown4 hh hsw
      have hG5 := hG4.trans hh
      clear hown4 hG4 hSB4 hg hh hp
      go_wp2_with fail
      refine (pick_c _ _ _ [0, 0, 30, 100] _ _ _ (hSB5.alloc _) (by have := HN.out; omega) (by decide) (by decide) (Rd.newAt _ rfl rfl (by decide)) (hSB5.newAt _ _ _ (Nat.le_refl _))).mono ?_; rintro e w6 ⟨f, rfl, hp, hSB6, hg⟩
      have hh := ((G.refl w5 (some s)).alloc (.cells _ 3)).trans hg
      have hown6 := OwnX.kept hown5 hh hsw
      have hG6 := hG5.trans hh
      have hob := OwnX.low hown6
      have hsz := hG6.size
      have hownA := OwnX.alloc hown6 (.cells #[.string h1, .string h2, .int .i64 (2 * (k : Int)), .int .i64 f] 108)
      clear hown5 hG5 hSB5 hg hh hp
      go_wp2_with (at_builtin; refine wpList_plain rfl fun K' hK' => wp_append_x cg_rowOk _ _ rfl w.heap.size u3 l rfl hownA w6.heap.size (h1, h2, 2 * (k : Int), f) rfl (Bk.new w6 _ _) (by have := HLK.out; omega) (by simp; omega) ?_; intro v8 w8 hown8 hgrow; refine hK' _ _ ?_)
      go_roundw
      case rel => exact ⟨k + 1, l ++ [(h1, h2, 2 * (k : Int), f)], (by have := HKN.out; omega), (by have := HLK.out; simp; omega), by go_num, hown8, HOK.out.snoc ⟨HH1.out, HH2.out⟩, ((hSB6.alloc _).own hgrow (fun r e => Nat.lt_of_lt_of_le hsw (hob r e))).le (by omega), (hG6.alloc _).other hgrow (fun r e => .inl (hob r e))⟩
      case measure => have := HKN.out; simp [intOf]; omega
    · obtain rfl : k = n := by omega
      have hn1 := HN.out
      by_cases h0 : l.length = 0
      · obtain rfl : l = [] := List.eq_nil_of_length_eq_zero h0
        obtain rfl : k = 0 := hlk.symm
        obtain ⟨aa, cc, hv, -, -⟩ := RdR.form (c := cgC) (Rd.of_owns hown)
        have hv' : u3 = .slice aa 0 cc := hv
        clear hv h0
        subst hv'
        go_wp2_with fail
        go_ret
        exact ⟨_, [], rfl, hown, hok, by simp, hSB.le (by omega), hG⟩
      · obtain ⟨g, cap, cur, e, -⟩ := OwnX.form0 hown (by omega)
        subst e
        subst hlk
        have hgs := OwnX.low hown g rfl
        have h0i : ((0 : Int) < (l.length : Int)) := by omega
        have HOK := Lib.hid hok
        clear h0 hok
        go_wp2_with fail
        refine (flip_c _ _ _ _ hSB (by omega) (by omega)).mono ?_; rintro e w3 ⟨q, rfl, hSB3, hg⟩
        have hown3 := OwnX.kept hown hg hsw
        have hG3 := hG.trans hg
        clear hown hG hSB hg
        cases q with
        | false =>
          go_wp2_with fail
          go_ret
          exact ⟨_, l, rfl, hown3, HOK.out, by omega, hSB3.le (by omega), hG3⟩
        | true =>
          go_wp2_with fail
          refine (next_c _ _ _ _ hSB3 (by omega) (by omega)).mono ?_; rintro e w4 ⟨j, rfl, hj, hSB4, hg⟩
          obtain ⟨j0, j1⟩ := hj
          obtain ⟨j, rfl⟩ := Int.eq_ofNat_of_zero_le j0
          have jl : j < l.length := by omega
          have jli : (j : Int) < (l.length : Int) := by omega
          clear j1
          have hown4 := OwnX.kept hown3 hg hsw
          have hG4 := hG3.trans hg
          clear hown3 hG3 hg hSB3
          go_wp2_with fail
          refine (some_c _ _ _ [⟨#[65]⟩, ⟨#[104, 49]⟩] _ _ _ (hSB4.alloc _) (by omega) (by decide) (by decide) (Rd.newAt _ rfl rfl (by decide)) (hSB4.newAt _ _ _ (Nat.le_refl _))).mono ?_; rintro e w5 ⟨r1, rfl, hp, hSB5, hg⟩
          have HR1 := Lib.hid (small_pick hp (by decide))
          have hown5 := OwnX.kept (OwnX.alloc hown4 (.cells _ 9)) hg hsw
          have hG5 := (hG4.alloc (.cells _ 9)).trans hg
          clear hown4 hG4 hg hSB4 hp
          go_wp2_with fail
          refine (odd_c _ _ _ _ _ hSB5 (by omega) (by omega) (by omega) (by omega) (by omega)).mono ?_; rintro e w6 ⟨y1, rfl, y10, y11, hSB6, hg⟩
          have hown6 := OwnX.kept hown5 hg hsw
          have hG6 := hG5.trans hg
          clear hown5 hG5 hg hSB5 y10 y11
          go_wp2_with fail
          refine (odd_c _ _ _ _ _ hSB6 (by omega) (by omega) (by omega) (by omega) (by omega)).mono ?_; rintro e w7 ⟨y2, rfl, y20, y21, hSB7, hg⟩
          have hown7 := OwnX.kept hown6 hg hsw
          have hG7 := hG6.trans hg
          clear hown6 hG6 hg hSB6 y20 y21
          obtain ⟨p, hp⟩ : ∃ p, l[j]? = some p := ⟨_, List.getElem?_eq_getElem jl⟩
          have HT : Hid (w7.there g (j * 4) (#[.string r1, .string ⟨#[]⟩, .int .i64 y1, .int .i64 y2] : Array Value).size) := Lib.hid (cg_there hown7 jl)
          have o1 := OwnX.set cgC_sz hown7 hp (q := (r1, p.2)) 0 (.string r1) (by omega) rfl
          have o2 := OwnX.set cgC_sz o1 (show (l.set j (r1, p.2))[j]? = some (r1, p.2) by rw [List.getElem?_set_self jl]) (q := (r1, ⟨#[]⟩, p.2.2)) 1 (.string ⟨#[]⟩) (by omega) rfl
          rw [List.set_set] at o2
          have o3 := OwnX.set cgC_sz o2 (show (l.set j (r1, ⟨#[]⟩, p.2.2))[j]? = some (r1, ⟨#[]⟩, p.2.2) by rw [List.getElem?_set_self jl]) (q := (r1, ⟨#[]⟩, y1, p.2.2.2)) 2 (.int .i64 y1) (by omega) rfl
          rw [List.set_set] at o3
          have o4 := OwnX.set cgC_sz o3 (show (l.set j (r1, ⟨#[]⟩, y1, p.2.2.2))[j]? = some (r1, ⟨#[]⟩, y1, p.2.2.2) by rw [List.getElem?_set_self jl]) (q := (r1, ⟨#[]⟩, y1, y2)) 3 (.int .i64 y2) (by omega) rfl
          rw [List.set_set] at o4
          have hSB8 := (((hSB7.setCell (p := ⟨g, j * 4, none⟩) (Nat.lt_of_lt_of_le hsw hgs) (.string r1)).setCell (p := ⟨g, j * 4 + 1, none⟩) (Nat.lt_of_lt_of_le hsw hgs) (.string ⟨#[]⟩)).setCell (p := ⟨g, j * 4 + 2, none⟩) (Nat.lt_of_lt_of_le hsw hgs) (.int .i64 y1)).setCell (p := ⟨g, j * 4 + 3, none⟩) (Nat.lt_of_lt_of_le hsw hgs) (.int .i64 y2)
          have hG8 := (((hG7.setCell (p := ⟨g, j * 4, none⟩) (.inl hgs) (.string r1)).setCell (p := ⟨g, j * 4 + 1, none⟩) (.inl hgs) (.string ⟨#[]⟩)).setCell (p := ⟨g, j * 4 + 2, none⟩) (.inl hgs) (.int .i64 y1)).setCell (p := ⟨g, j * 4 + 3, none⟩) (.inl hgs) (.int .i64 y2)
          have HWS : Hid (w7.setCells g (j * 4) [.string r1, .string ⟨#[]⟩, .int .i64 y1, .int .i64 y2] = (((w7.setCell ⟨g, j * 4, none⟩ (.string r1)).setCell ⟨g, j * 4 + 1, none⟩ (.string ⟨#[]⟩)).setCell ⟨g, j * 4 + 2, none⟩ (.int .i64 y1)).setCell ⟨g, j * 4 + 3, none⟩ (.int .i64 y2)) := Lib.hid rfl
          simp only [Nat.add_zero] at o4
          generalize (((w7.setCell ⟨g, j * 4, none⟩ (.string r1)).setCell ⟨g, j * 4 + 1, none⟩ (.string ⟨#[]⟩)).setCell ⟨g, j * 4 + 2, none⟩ (.int .i64 y1)).setCell ⟨g, j * 4 + 3, none⟩ (.int .i64 y2) = w8 at o4 hSB8 hG8 HWS
          clear o1 o2 o3 hown7 hG7 hSB7 hp
          go_wp2_with (refine wpList_store_mid rfl 108 _ _ rfl g (j * 4) #[.string r1, .string ⟨#[]⟩, .int .i64 y1, .int .i64 y2] rfl rfl HT.out (cg_info (r1, ⟨#[]⟩, y1, y2)) (cg_one (r1, ⟨#[]⟩, y1, y2)) ?_; rw [HWS.out])
          go_ret
          exact ⟨_, l.set j (r1, ⟨#[]⟩, y1, y2), rfl, by unfold OwnCg OwnX; rw [List.length_set]; exact o4, HOK.out.set ⟨HR1.out, small_of (s := ⟨#[]⟩) (by decide)⟩ j, by rw [List.length_set]; exact hn1, hSB8.le (by omega), hG8⟩
end Go.Proofs.YtamoefnpfkcigaaDoor

/- Tiers: CheckTiers; the reference's TiersFault. -/
namespace Go.Proofs.YtamoefnpfkcigaaDoor
open Go.RowKit

/-- A tier: before, permille. -/
abbrev Ti := Int × Int
def tiC (x : Ti) : Array Value := #[.int .i64 x.1, .int .i64 x.2]
theorem tiC_sz (x : Ti) : (tiC x).size = 2 := rfl
def TiOk (l : List Ti) : Prop := ∀ x ∈ l, bnd x.1 ∧ bnd x.2
def tiAfter (b : Option Ti) (x : Ti) : Bool := match b with | none => false | some y => decide (y.1 ≤ x.1) || decide (x.2 < y.2)
def tiErr : Option Ti → List Ti → Int
  | _, [] => 0
  | b, x :: r => if inB x.1 1 5761440 = false then 1 else if inB x.2 0 1000 = false then 1 else if tiAfter b x = true then 7 else tiErr (some x) r
def tiE (l : List Ti) : Int := if 10 < l.length then 2 else tiErr none l
def TiRel (w : World) (l : List Ti) (i : Value) (wr : World) : Prop :=
  ∃ k : Nat, k ≤ l.length ∧ i = .int .i64 k ∧ tiErr none l = tiErr (prevAt l k) (l.drop k) ∧ G w wr none
theorem tiRow {W w : World} {bb bo n cap : Nat} {l : List Ti} (h : RdR W 2 tiC (.slice (some ⟨bb, bo, none⟩) n cap) l) (hG : G W w none) {k : Nat} {p : Ti} (hp : l[k]? = some p) :
    ∀ j v, (tiC p).toList[j]? = some v → w.cell? ((⟨bb, bo + k * 2, none⟩ : Addr).add j) = some v := fun j v hv => by
  rw [add_at]
  exact RdR.cell tiC_sz h hG hp j v hv
end Go.Proofs.YtamoefnpfkcigaaDoor

/- CancelFee; the reference's CancelOf. -/
namespace Go.Proofs.YtamoefnpfkcigaaDoor
open Go.RowKit

/-- The permille of the last tier that is meant. -/
def cnS (d a : Int) (x : Ti) : Int := if d < x.1 then x.2 else a
def cnP (l : List Ti) (d : Int) : Int := l.foldl (cnS d) 0
theorem cnP_succ {l : List Ti} {k : Nat} {p : Ti} (d : Int) (hp : l[k]? = some p) : cnP (l.take (k + 1)) d = cnS d (cnP (l.take k) d) p := by
  have hk : k < l.length := (List.getElem?_eq_some_iff.1 hp).1
  have e : l.take (k + 1) = l.take k ++ [p] := by
    rw [List.take_succ_eq_append_getElem hk, (List.getElem?_eq_some_iff.1 hp).2]
  unfold cnP
  rw [e, List.foldl_append]
  rfl
theorem cnP_rng {l : List Ti} (h : ∀ x ∈ l, 0 ≤ x.2 ∧ x.2 ≤ 1000) (d : Int) : 0 ≤ cnP l d ∧ cnP l d ≤ 1000 := by
  have : ∀ (r : List Ti) (a : Int), (∀ x ∈ r, 0 ≤ x.2 ∧ x.2 ≤ 1000) → 0 ≤ a ∧ a ≤ 1000 → 0 ≤ r.foldl (cnS d) a ∧ r.foldl (cnS d) a ≤ 1000 := by
    intro r
    induction r with
    | nil => intro a _ ha; exact ha
    | cons x r ih =>
      intro a hx ha
      refine ih _ (fun y hy => hx y (List.mem_cons_of_mem _ hy)) ?_
      unfold cnS
      split
      · exact hx x (List.mem_cons_self ..)
      · exact ha
  exact this l 0 h (by omega)
theorem tiErr_ok {l : List Ti} : ∀ {b : Option Ti}, tiErr b l = 0 → ∀ x ∈ l, 0 ≤ x.2 ∧ x.2 ≤ 1000 := by
  induction l with
  | nil => intro b _ x hx; cases hx
  | cons y r ih =>
    intro b h
    unfold tiErr at h
    split at h
    · exact absurd h (by decide)
    · split at h
      · exact absurd h (by decide)
      · rename_i h2
        split at h
        · exact absurd h (by decide)
        · intro x hx
          rcases List.mem_cons.1 hx with rfl | hx
          · simp only [inB, Bool.not_eq_false, Bool.and_eq_true, decide_eq_true_eq] at h2
            omega
          · exact ih h x hx
theorem tiE_ok {l : List Ti} (h : tiE l = 0) : ∀ x ∈ l, 0 ≤ x.2 ∧ x.2 ≤ 1000 := by
  unfold tiE at h
  split at h
  · exact absurd h (by decide)
  · exact tiErr_ok h
theorem boE_ok {b : Bo} (h : boE [b] = 0) : 0 ≤ b.2.2.1 ∧ b.2.2.1 < 5761440 := by
  have h1 : boErr ⟨#[]⟩ [b] = 0 := h
  unfold boErr at h1
  split at h1
  · exact absurd h1 (by decide)
  · split at h1
    · exact absurd h1 (by decide)
    · split at h1
      · exact absurd h1 (by decide)
      · split at h1
        · exact absurd h1 (by decide)
        · rename_i h2
          simp only [boT, Bool.not_eq_false, Bool.and_eq_true] at h2
          have := (timB_iff _ _).1 h2.1
          omega
theorem one_len (b : Bo) : ([b] : List Bo).length ≤ 1000 := by simp
theorem BoOk.one {b : Bo} (h : boB b) : BoOk [b] := fun x hx => by
  obtain rfl := List.mem_singleton.1 hx
  exact h
def cfE (l : List Ti) (b : Bo) (c t : Int) : Int := if tiE l = 0 then (if boE [b] = 0 then (if inB c 0 1000000000 = false then 1 else if momB t = false then 1 else 0) else boE [b]) else tiE l
def cfN (l : List Ti) (b : Bo) (c t : Int) : Int := if cfE l b c t = 0 then c * cnP l (b.2.2.1 - t) / 1000 else 0
end Go.Proofs.YtamoefnpfkcigaaDoor

/- basic.Lowest. -/
namespace Go.Proofs.YtamoefnpfkcigaaDoor
open Go.RowKit

def frC (a b : Int) : Array Value := #[.int .i64 a, .int .i64 b]
theorem fr_one (a b : Int) : (frC a b).all (·.oneCell') = true := by simp [frC, Value.oneCell']
theorem quo_wrap (n a q : Nat) (hn : n ≤ 1000000000000000000) (hq : n / a = q) : IntKind.i64.wrap ((n : Int) / (a : Int)) = (q : Int) := by
  have h2 : q ≤ n := by rw [← hq]; exact Nat.div_le_self n a
  have h1 : (n : Int) / (a : Int) = (q : Int) := by rw [← hq]; rfl
  rw [h1, IntKind.wrap_i64]
  omega
end Go.Proofs.YtamoefnpfkcigaaDoor

/- The law's own 'booked': the odds of one booking. -/
namespace Go.Proofs.YtamoefnpfkcigaaDoor
open Go.RowKit

def coE (l : List Bo) : Int := if boE l = 0 then (if 9 < l.length then 2 else 0) else boE l
def bo1 : Bo := (⟨#[97]⟩, ⟨#[99]⟩, 0, 1, 0, 50)
theorem bo1_ok : boB bo1 := ⟨small_of (by decide), small_of (by decide), by unfold bnd bo1; dsimp only; omega, by unfold bnd bo1; dsimp only; omega, by unfold bnd bo1; dsimp only; omega, by unfold bnd bo1; dsimp only; omega⟩
theorem coE_one : coE [bo1] = 0 := by
  have h1 : boE [bo1] = 0 := by
    show boErr ⟨#[]⟩ [bo1] = 0
    unfold boErr bo1
    dsimp only
    rw [if_neg (by rw [show keyB ⟨#[97]⟩ = true by decide]; decide), if_neg (by rw [show keyB ⟨#[99]⟩ = true by decide]; decide), if_neg (by rw [leB_cmp]; decide), if_neg (by decide)]
    rfl
  rw [coE, if_pos h1, if_neg (by decide)]
/-! A row of fractions that the call owns. -/
abbrev Fr := Int × Int
def frV (x : Fr) : Array Value := frC x.1 x.2
theorem frV_sz (x : Fr) : (frV x).size = 2 := rfl
theorem frV_one (r : Fr) : ∀ u ∈ (frV r).toList, u.oneCell' = true := by
  intro u hu
  simp [frV, frC] at hu
  rcases hu with rfl | rfl <;> rfl
def EqfRel (l m : List Fr) (w : World) (i : Value) (wr : World) : Prop := ∃ k n : Nat, k ≤ l.length ∧ i = .int .i64 k ∧ l.take k = m.take k ∧ wr = w.drewN n
theorem take_succ_eq {l m : List Fr} {k : Nat} {x : Fr} (h : l.take k = m.take k) (hx : l[k]? = some x) (hy : m[k]? = some x) : l.take (k + 1) = m.take (k + 1) := by
  rw [List.take_add_one, List.take_add_one, h, hx, hy]
end Go.Proofs.YtamoefnpfkcigaaDoor

/- slices.Equal of lines. -/
namespace Go.Proofs.YtamoefnpfkcigaaDoor
open Go.RowKit

theorem li_neq2 (x : Li) (w : World) : (binOp .neq 72 (.agg #[.int .i64 x.1, .string x.2.1, .int .i64 x.2.2]) (.agg #[.int .i64 x.1, .string x.2.1, .int .i64 x.2.2])).run Tryd.prog w = .ok (.bool false) w := by
  have ht : Tryd.prog.underlying 72 = some (.struct (Tryd.prog.fieldsOf 72)) := by kernel_rfl
  have hp : Tryd.prog.stoodInHeld 72 = false := by kernel_rfl
  rw [run_neq_struct, run_equalIn_agg w 9999 72 _ _ ht hp]
  simp [Tryd.underlying72, Tryd.underlying3, Tryd.underlying9, go_sem]
def Liq2Rel (l : List Li) (w : World) (i : Value) (wr : World) : Prop := ∃ k n : Nat, k ≤ l.length ∧ i = .int .i64 k ∧ wr = w.drewN n
set_option maxRecDepth 100000 in
set_option maxHeartbeats 2000000 in
theorem liEq_c (v u : Value) (l : List Li) (w : World) (hr : RdR w 3 liC v l) (hs : RdR w 3 liC u l) (hn : l.length ≤ 1000000) :
    Calls Tryd.prog 36 #[v, u] w fun e w' => e = .returned (.bool true) ∧ G w w' none := by
  have HR := Lib.hid hr
  have HS := Lib.hid hs
  obtain ⟨a, cap, rfl, hcap, hm1⟩ := RdR.form hr
  obtain ⟨a2, cap2, rfl, hcap2, hm2⟩ := RdR.form hs
  clear hr hs
  have hlq : ((l.length : Int) != (l.length : Int)) = false := by simp
  go_enter Tryd.func36, Tryd.ntmps36
  go_wp2_with fail
  go_loopw [13] (Liq2Rel l w) (fun i _ => l.length - (intOf i).toNat)
  case atStart => exact ⟨0, 0, by omega, rfl, rfl⟩
  case round =>
    obtain ⟨k, n, hk, rfl, rfl⟩ := hrel
    by_cases hlt : k < l.length
    · obtain ⟨x, hx⟩ : ∃ x, l[k]? = some x := ⟨_, List.getElem?_eq_getElem hlt⟩
      obtain ⟨bb, bo, rfl, hbb, _⟩ := RdR.elem liC_sz HR.out (G.refl w none) hx
      obtain ⟨b2, o2, rfl, hb2, _⟩ := RdR.elem liC_sz HS.out (G.refl w none) hx
      have d0 := RdR.cell liC_sz HR.out (G.refl w none) hx 0 (.int .i64 x.1) rfl
      have d1 := RdR.cell liC_sz HR.out (G.refl w none) hx 1 (.string x.2.1) rfl
      have d2 := RdR.cell liC_sz HR.out (G.refl w none) hx 2 (.int .i64 x.2.2) rfl
      have e0 := RdR.cell liC_sz HS.out (G.refl w none) hx 0 (.int .i64 x.1) rfl
      have e1 := RdR.cell liC_sz HS.out (G.refl w none) hx 1 (.string x.2.1) rfl
      have e2 := RdR.cell liC_sz HS.out (G.refl w none) hx 2 (.int .i64 x.2.2) rfl
      simp only [Nat.add_zero] at d0 e0
      have hnq := li_neq2 x
      clear hx
      go_wp2_with fail
      go_quiet (fail)
      go_wp2_with fail
      go_roundw
      case rel => exact ⟨k + 1, _, by omega, by go_num, rfl⟩
      case measure => simp [intOf]; omega
    · obtain rfl : k = l.length := by omega
      go_wp2_with fail
      go_ret
      exact ⟨rfl, (G.refl _ _).drewN _⟩
end Go.Proofs.YtamoefnpfkcigaaDoor

/- rentlaw2's own errs, when. -/
namespace Go.Proofs.YtamoefnpfkcigaaDoor
open Go.RowKit

def Errs2Rel (es : List Int) (i : Value) : Prop := ∃ k : Nat, k ≤ es.length ∧ i = .int .i64 k ∧ errsOf es = errsOf (es.drop k)
set_option maxRecDepth 100000 in
set_option maxHeartbeats 1000000 in
theorem errs2_c (es : List Int) (v : Value) (w : World) (hr : Rd w 1 v es.length (es.map (Value.int .i64))) (hn : es.length ≤ 1000) :
    Calls Tryd.prog 25 #[v] w fun e w' => e = .returned (.int .i64 (errsOf es)) ∧ w = w' := by
  obtain ⟨a, cap, rfl, hcap, hm, hlen, hnil, hcell⟩ := hr
  go_enter Tryd.func25, Tryd.ntmps25
  go_wp2_with fail
  go_loop [7] (Errs2Rel es) (fun i => es.length - (intOf i).toNat)
  case atStart => exact ⟨0, by omega, rfl, rfl⟩
  case round =>
    obtain ⟨k, hk, rfl, heq⟩ := hrel
    have HE := Lib.hid heq
    clear heq
    by_cases hlt : k < es.length
    · obtain ⟨x, hx⟩ : ∃ x, es[k]? = some x := ⟨_, List.getElem?_eq_getElem hlt⟩
      have HD : Hid (errsOf es = if x = 0 then errsOf (es.drop (k + 1)) else x) := Lib.hid (by
        rw [HE.out, List.drop_eq_getElem_cons hlt, (List.getElem?_eq_some_iff.1 hx).2]; rfl)
      cases a with
      | none => have := (hnil rfl).1; omega
      | some ad =>
        obtain ⟨bb, bo, bs⟩ := ad
        obtain ⟨e1, e2, e3⟩ := hcell _ rfl
        dsimp only at e1 e2 e3
        subst e1
        have hc := e3 k (.int .i64 x) (by rw [List.getElem?_map, hx]; rfl)
        clear hcell e3 hnil hx
        by_cases h0 : x = 0
        · subst h0
          have HF : Hid (errsOf es = errsOf (es.drop (k + 1))) := Lib.hid (by rw [HD.out, if_pos rfl])
          go_wp2_with fail
          go_round
          case rel => exact ⟨k + 1, by omega, by go_num, HF.out⟩
          case measure => simp [intOf]; omega
        · have HF : Hid (errsOf es = x) := Lib.hid (by rw [HD.out, if_neg h0])
          have h1 : (x != 0) = true := by rw [bne_iff_ne]; exact h0
          clear h0
          go_wp2_with fail
          go_ret
          exact ⟨ret_int HF.out.symm, rfl⟩
    · obtain rfl : k = es.length := by omega
      have HF : Hid (errsOf es = 0) := Lib.hid (by rw [HE.out, List.drop_length]; rfl)
      go_wp2_with fail
      go_ret
      exact ⟨ret_int HF.out.symm, rfl⟩
theorem when2_c (b : Bool) (n : Int) (w : World) : Calls Tryd.prog 33 #[.bool b, .int .i64 n] w fun e w' => e = .returned (.int .i64 (if b = true then n else 0)) ∧ w = w' := by
  cases b
  all_goals
    go_enter Tryd.func33, Tryd.ntmps33
    go_wp2_with fail
    go_ret
    exact ⟨rfl, rfl⟩
end Go.Proofs.YtamoefnpfkcigaaDoor

/- The law ChargesBilled. -/
namespace Go.Proofs.YtamoefnpfkcigaaDoor
open Go.RowKit

theorem ln_errs (x : Tr) (l : List Cg) (key : ByteArray) : errsOf [trE x, cgE l, if (!keyB key) = true then 5 else 0] = lnE x l key := by
  unfold lnE
  by_cases e1 : trE x = 0
  · rw [if_pos e1, errsOf, if_pos e1]
    by_cases e2 : cgE l = 0
    · rw [if_pos e2, errsOf, if_pos e2]
      cases keyB key <;> rfl
    · rw [if_neg e2, errsOf, if_neg e2]
  · rw [if_neg e1, errsOf, if_neg e1]
theorem lnE_cg {x : Tr} {l : List Cg} {key : ByteArray} (h : lnE x l key = 0) : cgE l = 0 := by
  unfold lnE at h
  split at h
  · split at h
    · assumption
    · exact h
  · rename_i h1
    exact absurd h h1
theorem tlL_len (f s : Int) : (tlL f s).length ≤ 2 := by
  unfold tlL
  split
  · simp
  · split <;> simp
set_option maxRecDepth 100000 in
set_option maxHeartbeats 4000000 in
theorem chargesBilled_c (a : Option Addr) (n c : Nat) (zs : List Int) (W : World) (hr : Rd W 1 (.slice a n c) n (zs.map (Value.int .i64))) (hz : ∀ z ∈ zs, -9223372036854775808 ≤ z ∧ z ≤ 9223372036854775807) :
    Calls Tryd.prog 5 #[.slice a n c] W fun e W' => e = .returned (.bool true) ∧ G W W' none := by
  have hSB : SB (W.alloc (.cells #[.slice a n c, .int .i64 0] 25)) W.heap.size 0 := by
    have hB := Bk.new W 25 #[.slice a n c, .int .i64 0]
    refine ⟨0, a, n, c, zs, Nat.le_refl _, hr.quiet ((G.refl _ _).alloc _), fun b e => ?_, hz, hB.cell 0, hB.cell 1, hB.free 1, hB.lt⟩
    obtain ⟨a', c', e', r1, r2, r3, r4, r5⟩ := hr
    cases e'
    exact (r5 b e).2.1
  have hG0 : G W (W.alloc (.cells #[.slice a n c, .int .i64 0] 25)) (some W.heap.size) := (G.refl _ _).alloc _
  clear hr hz
  go_enter Tryd.func5, Tryd.ntmps5
  go_upto_region 2 with fail
  generalize W.alloc (.cells #[.slice a n c, .int .i64 0] 25) = w0 at hSB hG0 ⊢
  go_wp2_with fail
  refine (tollRulesG_c _ _ _ hSB (by omega)).mono ?_; rintro e w1 ⟨x, rfl, hSB1, hh⟩
  have hG1 := hG0.trans hh
  have HX := Lib.hid (rfl : x = x)
  obtain ⟨d, q, f⟩ := x
  rw [show trC (d, q, f) = #[.int .i64 d, .int .i64 q, .int .i64 f] from rfl]
  clear hSB hG0 hh HX
  go_wp2_with fail
  refine (charges_c _ _ _ hSB1 (by omega)).mono ?_; rintro e w2 ⟨v, l, rfl, hown, hok, hln, hSB2, hh⟩
  have hG2 := hG1.trans hh
  have hs1 : W.heap.size < w1.heap.size := hSB1.lt
  clear hSB1 hG1 hh
  go_wp2_with fail
  refine (some_c _ _ _ [⟨#[104, 49]⟩, ⟨#[104, 49]⟩, ⟨#[104, 50]⟩, ⟨#[]⟩] _ _ _ (hSB2.alloc _) (by omega) (by decide) (by decide) (Rd.newAt _ rfl rfl (by decide)) (hSB2.newAt _ _ _ (Nat.le_refl _))).mono ?_; rintro e w3 ⟨key, rfl, hp, hSB3, hh⟩
  have HKEY := Lib.hid (small_pick hp (by decide))
  have hq := ((G.refl w2 (some W.heap.size)).alloc (.cells _ 9)).trans hh
  have hR3 := Rd.of_owns (OwnX.kept hown hq hs1)
  have hG3 := (hG2.trans hq).own (Nat.le_refl _)
  clear hSB2 hG2 hown hh hq hp hSB3
  obtain ⟨a1, c1, rfl, -, -⟩ := RdR.form (c := cgC) hR3
  have CL := Lib.hid (fun w' (p : RdR w' 4 cgC (.slice a1 l.length c1) l) => lines_c (d, q, f) _ l key w' p hok (by omega) HKEY.out)
  have CT := Lib.hid (fun w' => tollFault_c (d, q, f) w')
  have CC := Lib.hid (fun w' (p : RdR w' 4 cgC (.slice a1 l.length c1) l) => chargesFault_c _ l w' p hok (by omega))
  have CR := Lib.hid (fun (e : lnE (d, q, f) l key = 0) w' (p : RdR w' 4 cgC (.slice a1 l.length c1) l) => tollLines_c (d, q, f) _ l key w' p (lnE_cg e))
  have HE := Lib.hid (ln_errs (d, q, f) l key)
  have HL1 : Hid (lnE (d, q, f) l key = 0 → lnL (d, q, f) l key = tlL f (tlS key l)) := Lib.hid (fun e => if_pos e)
  have HL0 : Hid (lnE (d, q, f) l key ≠ 0 → lnL (d, q, f) l key = []) := Lib.hid (fun e => if_neg e)
  have hlen := tlL_len f (tlS key l)
  dsimp only at CR
  generalize lnL (d, q, f) l key = LL at CL HL1 HL0
  generalize lnE (d, q, f) l key = E at CL CR HE HL1 HL0
  generalize trE (d, q, f) = E1 at CT HE
  generalize cgE l = E2 at CC HE
  generalize tlL f (tlS key l) = TL at CR HL1 hlen
  have hB4 : Bk (w3.alloc (.cells #[.int .i64 d, .int .i64 q, .int .i64 f] 51)) w3.heap.size 51 #[.int .i64 d, .int .i64 q, .int .i64 f] := Bk.new _ _ _
  have hR4 := hR3.quiet ((G.refl w3 none).alloc (.cells #[.int .i64 d, .int .i64 q, .int .i64 f] 51))
  have hG4 := hG3.alloc (.cells #[.int .i64 d, .int .i64 q, .int .i64 f] 51)
  clear hR3 hG3
  go_upto_region 3 with fail
  generalize w3.alloc (.cells #[.int .i64 d, .int .i64 q, .int .i64 f] 51) = w4 at hB4 hR4 hG4 ⊢
  generalize w3.heap.size = g at hB4 ⊢
  go_wp2_with (refine wpList_load_row rfl 51 _ rfl g rfl 51 #[.int .i64 d, .int .i64 q, .int .i64 f] (0, 0) _ hB4 Tryd.underlying51 rfl (tr_info (d, q, f)) ?_)
  refine (CL.out _ hR4).mono ?_; rintro e w5 ⟨v5, rfl, hX, hh⟩
  replace hR4 := hR4.quiet hh
  replace hB4 := hB4.quiet hh
  replace hG4 := hG4.trans hh
  clear hh CL
  go_wp2_with (refine wpList_load_row rfl 51 _ rfl g rfl 51 #[.int .i64 d, .int .i64 q, .int .i64 f] (0, 0) _ hB4 Tryd.underlying51 rfl (tr_info (d, q, f)) ?_)
  refine (CT.out _).mono ?_; rintro e w6 ⟨rfl, hh⟩
  replace hR4 := hR4.quiet hh
  replace hB4 := hB4.quiet hh
  replace hX := Rd.quiet hX hh
  replace hG4 := hG4.trans hh
  clear hh CT
  go_wp2_with fail
  refine (CC.out _ hR4).mono ?_; rintro e w7 ⟨rfl, hh⟩
  replace hR4 := hR4.quiet hh
  replace hB4 := hB4.quiet hh
  replace hX := Rd.quiet hX hh
  replace hG4 := hG4.trans hh
  clear hh CC
  go_wp2_with fail
  refine (rkey_c key _ HKEY.out).mono ?_; rintro e w8 ⟨rfl, hh⟩
  replace hR4 := hR4.quiet hh
  replace hB4 := hB4.quiet hh
  replace hX := Rd.quiet hX hh
  replace hG4 := hG4.trans hh
  clear hh
  go_wp2_with fail
  refine (when2_c _ _ _).mono ?_; rintro e w' ⟨rfl, rfl⟩
  generalize (if (!keyB key) = true then (5 : Int) else 0) = E3 at HE ⊢
  go_wp2_with fail
  refine (errs2_c [E1, E2, E3] _ _ (Rd.new #[.int .i64 E1, .int .i64 E2, .int .i64 E3] rfl (by show 3 ≤ maxLen; decide)) (by simp)).mono ?_; rintro e w' ⟨rfl, rfl⟩
  rw [HE.out]
  have hh := (G.refl w8 none).alloc (.cells #[.int .i64 E1, .int .i64 E2, .int .i64 E3] 28)
  replace hR4 := hR4.quiet hh
  replace hB4 := hB4.quiet hh
  replace hX := Rd.quiet hX hh
  replace hG4 := hG4.trans hh
  clear hh HE
  go_upto_region 5 with fail
  generalize w8.alloc (.cells #[.int .i64 E1, .int .i64 E2, .int .i64 E3] 28) = w9 at hR4 hB4 hX hG4 ⊢
  have hee : (E == E) = true := by simp
  by_cases hE : E = 0
  · subst hE
    obtain rfl : LL = TL := HL1.out rfl
    clear HL1 HL0
    go_wp2_with (refine wpList_load_row rfl 51 _ rfl g rfl 51 #[.int .i64 d, .int .i64 q, .int .i64 f] (0, 0) _ hB4 Tryd.underlying51 rfl (tr_info (d, q, f)) ?_)
    refine (CR.out trivial _ hR4).mono ?_; rintro e wa ⟨va, rfl, hY, hh⟩
    replace hX := Rd.quiet hX hh
    have hGa := hG4.trans hh
    clear hh hR4 hB4 hG4 CR
    obtain ⟨a5, c5, rfl, -, -⟩ := RdR.form (c := liC) hX
    go_wp2_with fail
    refine (liEq_c _ _ LL _ hX hY (by omega)).mono ?_; rintro e wb ⟨rfl, hh⟩
    have hGb := hGa.trans hh
    go_wp2_with fail
    refine (tolled_c _).mono ?_; rintro e wc ⟨rfl, hh⟩
    have hGc := hGb.trans hh
    go_wp2_with fail
    go_ret
    exact ⟨rfl, hGc⟩
  · obtain rfl : LL = [] := HL0.out hE
    have he0 : (E == 0) = false := beq_eq_false_iff_ne.2 hE
    clear HL1 HL0 CR
    obtain ⟨a5, c5, rfl, -, -⟩ := RdR.form (c := liC) hX
    go_wp2_with fail
    refine (liEq_c _ _ [] _ hX (RdR.nil _ _ _) (by simp)).mono ?_; rintro e wb ⟨rfl, hh⟩
    have hGb := hG4.trans hh
    go_wp2_with fail
    refine (tolled_c _).mono ?_; rintro e wc ⟨rfl, hh⟩
    have hGc := hGb.trans hh
    go_wp2_with fail
    go_ret
    exact ⟨rfl, hGc⟩
end Go.Proofs.YtamoefnpfkcigaaDoor

/- What the row's list of variables gives; a start that meets it. -/
namespace Go.Proofs.YtamoefnpfkcigaaDoor
open Go.ChangeShapes Go.WideShapes Go.ChangeAt Go.RowKit

theorem own : ownKnob Tryd.prog.godebug = none := by kernel_rfl
theorem c1 : Tryd.prog.cellsOf 3 = 1 := by kernel_rfl
def laidL : List (String × DataW Unit) := [("unicode/utf8.acceptRanges", Rows.laid_unicode_utf8_acceptRanges), ("unicode/utf8.first", Rows.laid_unicode_utf8_first)]
/-- A start that meets the list: what the door's run leaves, Go's own table laid by hand. -/
noncomputable def laidWorld (os : Os) : World :=
  { World.doorLaid Tryd.prog 200 os with heap := (World.doorLaid Tryd.prog 200 os).heap.modify 0 fun
      | .cells _ t fr => .cells (Lib.firstTab.map (Value.int .u8)).toArray t fr
      | o => o }
set_option maxRecDepth 100000 in
theorem laid_met (os : Os) : laidMetH Tryd.prog laidL ((laidWorld os).forCall (fun _ _ => 0) ⟨#[], #[.slice none 0 0], []⟩).memory :=
  laidMetH_of_parts3 (fuel := 8) (laidMet_of_run' 8 (by kernel_rfl) (by kernel_rfl)) (by kernel_rfl) (by kernel_rfl)

/-! ### The row's last step -/
section
variable {H : Type} {enc : TypeId × Value → H} {P : Program}
theorem post_quiet {f : Func} {s : ChangeSpec} {apart fresh handsOn again : Bool} {W W' : World} {args : Array Value} {v : Value} {ds gs : List (DataW H)} {before pa pv : List MemPlace}
    (hW : DataW.Whole enc P f.params.toList s.vars apart W args.toList ds gs before) (hg : G W W' none)
    (hres : ∀ (b : Nat) (sp : Nat → Bool) (hd : Bool), DataW.TrodAll enc P W' b sp hd f.resultTypes.toList (v.resultList f.resultTypes.size) (s.fn H (ds ++ gs)).results [])
    (hargs : ∀ sp : Nat → Bool, (∀ p ∈ before, sp p.block = true) → DataW.TrodAll enc P W' 0 sp true f.params.toList args.toList (s.fn H (ds ++ gs)).args pa)
    (hvars : ∀ sp : Nat → Bool, (∀ p ∈ before, sp p.block = true) → DataW.TrodVars enc P W' sp s.vars (s.fn H (ds ++ gs)).vars pv)
    (hps : before = pa ++ pv)
    (hok : ∀ (j : Nat) (t : TypeId) (r : Value), f.resultTypes[j]? = some t → (v.resultList f.resultTypes.size)[j]? = some r → Value.okWide P W' .any 0 t r) :
    s.post enc P f apart fresh handsOn again W args v W' := by
  have hb := hg.below
  have lt : ∀ p ∈ before, p.block < W.heap.size := fun p hp => hW.lt p hp
  have old : ∀ p ∈ before, (fun b => decide (b < W.heap.size)) p.block = true := fun p hp => decide_eq_true (lt p hp)
  have sub : ∀ p, p ∈ ([] ++ pa) ++ pv → p ∈ before := fun p hp => by rw [hps]; simpa using hp
  refine ⟨ds, gs, before, [], pa, pv, hW, hres _ _ _, hargs _ old, hvars _ old, World.keptBut_mono (fun p hp => ⟨hp, .inr (by rw [← List.mem_append, ← hps]; exact hp)⟩) (hb.frame (· ∈ before)), fun _ => ⟨hok, ?_⟩⟩
  obtain ⟨_, _, _, _, _, hz, hn⟩ := hW
  refine ⟨_, _, ([] ++ pa) ++ pv, ⟨[] ++ pa, pv, trodAll_append (hargs _ fun _ _ => rfl) (hres _ _ _), hvars _ fun _ _ => rfl, rfl, fun b off hp => ?_, fun ha => ?_⟩, fun p hp _ => sub p hp⟩
  · rw [hb.frozen (lt _ (sub _ hp))]
    exact hz b off (sub _ hp)
  · have h := hn ha
    rw [hps] at h
    simpa using h
end
theorem laidOut : laidOutB Tryd.prog = true := by kernel_rfl
theorem wf64 {n : Int} (h : (Lit.int .i64 n).wf = true) : -9223372036854775808 ≤ n ∧ n ≤ 9223372036854775807 := by
  have h1 : IntKind.i64.min = -9223372036854775808 := rfl
  have h2 : IntKind.i64.max = 9223372036854775807 := rfl
  simp only [Lit.wf, Bool.and_eq_true, decide_eq_true_eq] at h
  omega
set_option maxRecDepth 100000 in
theorem has_of_ok {W : World} {base : Nat} {a : Addr} {n c : Nat} (hok : Value.okWide Tryd.prog W .any base 22 (.slice (some a) n c)) : a.spot = none ∧ a.block < W.heap.size := by
  simp only [Value.okWide, Tryd.underlying22, Cell.okWide, Cell.ok] at hok
  obtain ⟨_, _, _, h2, row, cells, h3, _⟩ := hok
  refine ⟨h2, ?_⟩
  unfold World.shape? at h3
  cases hh : W.heap[a.block]? with
  | none => simp [hh] at h3
  | some o => exact (Array.getElem?_eq_some_iff.1 hh).1
set_option maxRecDepth 100000 in
/-- The list of numbers that came in, as the walk wants it. -/
theorem rd_of_trod {H : Type} {enc : TypeId × Value → H} {W : World} {base : Nat} {v : Value} {d : DataW H} {p : List MemPlace} (hok : Value.okWide Tryd.prog W .any base 22 v) (h : DataW.Trod enc Tryd.prog W 0 (fun _ => true) true 22 v d p) :
    ∃ (a : Option Addr) (n c : Nat) (zs : List Int), v = .slice a n c ∧ Rd W 1 (.slice a n c) n (zs.map (Value.int .i64)) ∧ ∀ z ∈ zs, -9223372036854775808 ≤ z ∧ z ≤ 9223372036854775807 := by
  obtain ⟨a0, len, cap, rfl⟩ := okWide_slice Tryd.underlying22 hok
  obtain ⟨fuel, hf⟩ := h
  rcases open_ints Tryd.underlying22 Tryd.underlying3 c1 hf with ⟨hcs, _⟩ | ⟨a, len', cap', zs, hcs, _, hl, hm, hz, _, hcell, hw⟩
  · have hcs' : [Value.slice a0 len cap] = [Value.slice none 0 0] := hcs
    injection hcs' with e _
    injection e with e1 e2 e3
    subst e1; subst e2; subst e3
    exact ⟨none, 0, 0, [], rfl, ⟨none, 0, rfl, Nat.le_refl _, Nat.zero_le _, rfl, fun _ => ⟨rfl, rfl⟩, fun b hb => by cases hb⟩, fun z hz => by cases hz⟩
  · have hcs' : [Value.slice a0 len cap] = [Value.slice (some a) len' cap'] := hcs
    injection hcs' with e _
    injection e with e1 e2 e3
    subst e1; subst e2; subst e3
    simp only [if_true] at hz
    obtain ⟨s1, s2⟩ := has_of_ok hok
    refine ⟨some a, len, cap, zs.take len, rfl, ⟨some a, cap, rfl, hl, hm, by simp; omega, (fun e => by cases e), fun b hb => ?_⟩, fun z hz' => wf64 (hw z (List.mem_of_mem_take hz'))⟩
    obtain rfl := Option.some.inj hb
    refine ⟨s1, s2, fun j u hj => ?_⟩
    rw [List.getElem?_map] at hj
    obtain ⟨z, hz1, rfl⟩ := Option.map_eq_some_iff.1 hj
    have hjl := (List.getElem?_eq_some_iff.1 hz1).1
    simp at hjl
    have hc := hcell j (by omega)
    have hz2 : zs[j]? = some z := by rw [← hz1, List.getElem?_take, if_pos (by omega)]
    rw [List.getD, hz2] at hc
    have ha : a.add j = ⟨a.block, a.off + j, none⟩ := by
      obtain ⟨ab, ao, asp⟩ := a
      dsimp only at s1
      subst s1
      exact add_at ab ao j
    rw [ha] at hc
    exact hc
end Go.Proofs.YtamoefnpfkcigaaDoor
