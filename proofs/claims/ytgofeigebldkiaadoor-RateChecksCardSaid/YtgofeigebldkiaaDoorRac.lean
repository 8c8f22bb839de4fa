/- Rates: CheckRates. -/
import Derived.Test.YtgofeigebldkiaaDoorRat
namespace Go.Proofs.YtgofeigebldkiaaDoor
open Go.RowKit

def raAfter (b : Option Ra) (x : Ra) : Bool := match b with | none => false | some y => decide (0 ≤ cmpR y x)
def raHits (b : Option Ra) (x : Ra) : Bool := match b with | none => false | some y => eqB y.1 x.1 && decide (x.2.1 < y.2.2.1)
def raErr : Option Ra → List Ra → Int
  | _, [] => 0
  | b, x :: r => if chE x = 0 then (if raAfter b x = true then 7 else if raHits b x = true then 13 else raErr (some x) r) else chE x
def raE (l : List Ra) : Int := if 200 < l.length then 2 else raErr none l
def RaRel (w : World) (l : List Ra) (i : Value) (wr : World) : Prop :=
  ∃ k : Nat, k ≤ l.length ∧ i = .int .i64 k ∧ raErr none l = raErr (prevAt l k) (l.drop k) ∧ G w wr none
theorem raRow {W w : World} {bb bo n cap : Nat} {l : List Ra} (h : RdR W 7 raC (.slice (some ⟨bb, bo, none⟩) n cap) l) (hG : G W w none) {k : Nat} {p : Ra} (hp : l[k]? = some p) :
    ∀ j v, (raC p).toList[j]? = some v → w.cell? ((⟨bb, bo + k * 7, none⟩ : Addr).add j) = some v := fun j v hv => by
  rw [add_at]
  exact RdR.cell raC_sz h hG hp j v hv
theorem bkRow {w : World} {g : Nat} {T : TypeId} {cs : Array Value} (h : Bk w g T cs) : ∀ j v, cs.toList[j]? = some v → w.cell? ((⟨g, 0, none⟩ : Addr).add j) = some v := fun j v hv => by
  rw [add_at, Nat.zero_add, h.cell]
  simpa using hv
set_option maxRecDepth 100000 in
set_option maxHeartbeats 4000000 in
theorem checkRates_c (v : Value) (l : List Ra) (w : World) (hr : RdR w 7 raC v l) (hl : RaOk l) (hn : l.length ≤ 1000) :
    Calls Tryd.prog 14 #[v] w fun e w' => e = .returned (.int .i64 (raE l)) ∧ G w w' none := by
  have HR := Lib.hid hr
  obtain ⟨a, cap, rfl, hcap, hm⟩ := RdR.form hr
  clear hr
  by_cases h30 : 200 < l.length
  · have H := Lib.hid (show raE l = 2 by simp [raE, h30])
    go_enter Tryd.func14, Tryd.ntmps14
    go_wp2_with fail
    go_ret
    exact ⟨by rw [H.out]; rfl, G.refl _ _⟩
  · have H := Lib.hid (show raE l = raErr none l by simp [raE, h30])
    go_enter Tryd.func14, Tryd.ntmps14
    go_wp2_with fail
    go_loopw [12] (RaRel w l) (fun i _ => l.length - (intOf i).toNat)
    case atStart => exact ⟨0, by omega, rfl, rfl, G.refl _ _⟩
    case round =>
      obtain ⟨k, hkl, rfl, heq, hG⟩ := hrel
      have HE := Lib.hid heq
      clear heq
      by_cases hk : k < l.length
      · obtain ⟨p, hp⟩ : ∃ p, l[k]? = some p := ⟨_, List.getElem?_eq_getElem hk⟩
        have hdrop : l.drop k = p :: l.drop (k + 1) := by rw [List.drop_eq_getElem_cons hk, ← (List.getElem?_eq_some_iff.1 hp).2]
        have hpl := hl p (List.mem_of_getElem? hp)
        obtain ⟨bb, bo, rfl, hbb, _⟩ := RdR.elem raC_sz HR.out hG hp
        have HW := Lib.hid (raRow HR.out hG hp)
        have HP := Lib.hid hp
        have hs1 := hpl.1
        have HS : Hid (raErr (prevAt l k) (l.drop k) = if chE p = 0 then (if raAfter (prevAt l k) p = true then 7 else if raHits (prevAt l k) p = true then 13 else raErr (some p) (l.drop (k + 1))) else chE p) := Lib.hid (by rw [hdrop]; rfl)
        have HL := Lib.hid (bkRow (Bk.new wr 37 (raC p)))
        clear hdrop hp hpl
        go_wp2_with (first | (refine wpList_load_at rfl 37 _ rfl ⟨bb, bo + k * 7, none⟩ rfl #[.string p.1, .int .i64 p.2.1, .int .i64 p.2.2.1, .int .i64 p.2.2.2.1, .int .i64 p.2.2.2.2.1, .int .i64 p.2.2.2.2.2.1, .int .i64 p.2.2.2.2.2.2] _ HW.out Tryd.underlying37 rfl (ra_info p) ?_) | (refine wpList_load_at rfl 37 _ rfl ⟨wr.heap.size, 0, none⟩ rfl #[.string p.1, .int .i64 p.2.1, .int .i64 p.2.2.1, .int .i64 p.2.2.2.1, .int .i64 p.2.2.2.2.1, .int .i64 p.2.2.2.2.2.1, .int .i64 p.2.2.2.2.2.2] _ HL.out Tryd.underlying37 rfl (ra_info p) ?_))
        refine (checkRate_c p _ hs1).mono ?_; rintro e w1 ⟨rfl, hG1⟩
        have hpb := Bk.new wr 37 (raC p)
        have hpn : (wr.alloc (.cells (raC p) 37)).heap.size = wr.heap.size + 1 := by simp
        have hG01 := (hG.alloc (.cells (raC p) 37)).trans hG1
        have hB5 := hpb.quiet hG1
        have hg5 := hB5.lt
        clear hG hG1 HW HL hpb hpn
        generalize wr.heap.size = g at hB5 hg5 ⊢
        by_cases hch : chE p = 0
        · rw [hch]
          cases k with
          | zero =>
            have HF : Hid (raErr none l = raErr (prevAt l (0 + 1)) (l.drop (0 + 1))) := Lib.hid (by rw [HE.out, HS.out, if_pos hch, if_neg (by simp [raAfter, prevAt]), if_neg (by simp [raHits, prevAt]), prevAt_succ l 0 p HP.out])
            clear hch HS HE
            go_wp2_with fail
            go_roundw
            case rel => exact ⟨0 + 1, by omega, by go_num, HF.out, hG01⟩
            case measure => simp [intOf]; omega
          | succ m =>
            obtain ⟨q, hq2⟩ : ∃ q, l[m]? = some q := ⟨_, List.getElem?_eq_getElem (by omega)⟩
            have HPA : Hid (prevAt l (m + 1) = some q) := Lib.hid (prevAt_succ l m q hq2)
            have HX : Hid (raErr none l = if raAfter (some q) p = true then 7 else if raHits (some q) p = true then 13 else raErr (some p) (l.drop (m + 1 + 1))) := Lib.hid (by rw [HE.out, HS.out, if_pos hch, HPA.out])
            have hsub : IntKind.i64.wrap (((m + 1 : Nat) : Int) - 1) = (m : Int) := by rw [show ((m + 1 : Nat) : Int) - 1 = (m : Int) by omega]; rw [IntKind.wrap_i64]; omega
            have hsub2 : IntKind.i64.wrap (m : Int) = (m : Int) := by rw [IntKind.wrap_i64]; omega
            have hsub3 : IntKind.i64.wrap ((m : Int) + 1 - 1) = (m : Int) := by rw [IntKind.wrap_i64]; omega
            have hm0 : (0 : Int) ≤ (m : Int) := Int.natCast_nonneg m
            have hml : (m : Int) < (l.length : Int) := by omega
            have HW := Lib.hid (raRow HR.out hG01 hq2)
            have HL1 := Lib.hid (bkRow (hB5.alloc (.cells (raC q) 37)))
            have HL2 := Lib.hid (bkRow (Bk.new w1 37 (raC q)))
            have HB6 := Lib.hid (hB5.alloc (.cells (raC q) 37))
            have HB7 := Lib.hid (Bk.new w1 37 (raC q))
            clear hq2 hch HS HE hB5
            go_wp2_with (first | (refine wpList_load_at rfl 37 _ rfl ⟨bb, bo + m * 7, none⟩ rfl #[.string q.1, .int .i64 q.2.1, .int .i64 q.2.2.1, .int .i64 q.2.2.2.1, .int .i64 q.2.2.2.2.1, .int .i64 q.2.2.2.2.2.1, .int .i64 q.2.2.2.2.2.2] _ HW.out Tryd.underlying37 rfl (ra_info q) ?_) | (refine wpList_load_at rfl 37 _ rfl ⟨g, 0, none⟩ rfl #[.string p.1, .int .i64 p.2.1, .int .i64 p.2.2.1, .int .i64 p.2.2.2.1, .int .i64 p.2.2.2.2.1, .int .i64 p.2.2.2.2.2.1, .int .i64 p.2.2.2.2.2.2] _ HL1.out Tryd.underlying37 rfl (ra_info p) ?_) | (refine wpList_load_at rfl 37 _ rfl ⟨w1.heap.size, 0, none⟩ rfl #[.string q.1, .int .i64 q.2.1, .int .i64 q.2.2.1, .int .i64 q.2.2.2.1, .int .i64 q.2.2.2.2.1, .int .i64 q.2.2.2.2.2.1, .int .i64 q.2.2.2.2.2.2] _ HL2.out Tryd.underlying37 rfl (ra_info q) ?_))
            refine (compareRates_c q p _).mono ?_; rintro e w2 ⟨rfl, hG2⟩
            have hB8 := HB6.out.quiet hG2
            have hB9 := HB7.out.quiet hG2
            have hG02 := (hG01.alloc (.cells (raC q) 37)).trans hG2
            have c0 : w2.cell? ⟨g, 0, none⟩ = some (.string p.1) := hB8.cell 0
            have c1 : w2.cell? ⟨g, 1, none⟩ = some (.int .i64 p.2.1) := hB8.cell 1
            have d0 : w2.cell? ⟨w1.heap.size, 0, none⟩ = some (.string q.1) := hB9.cell 0
            have d2 : w2.cell? ⟨w1.heap.size, 2, none⟩ = some (.int .i64 q.2.2.1) := hB9.cell 2
            have HY : Hid (raErr none l = if 0 ≤ cmpR q p then 7 else if raHits (some q) p = true then 13 else raErr (some p) (l.drop (m + 1 + 1))) := Lib.hid (by rw [HX.out]; simp [raAfter])
            clear hG2 hB8 hB9 HX HW HL1 HL2 HB6 HB7 hG01
            generalize cmpR q p = C at HY ⊢
            rcases (show 0 ≤ C ∨ C < 0 by omega) with hC | hC
            · have HF : Hid (raE l = 7) := Lib.hid (by rw [H.out, HY.out, if_pos hC])
              go_wp2_with fail
              go_ret
              exact ⟨by rw [HF.out]; rfl, hG02⟩
            · have HZ : Hid (raErr none l = if raHits (some q) p = true then 13 else raErr (some p) (l.drop (m + 1 + 1))) := Lib.hid (by rw [HY.out, if_neg (by omega)])
              clear HY
              cases hq : eqB q.1 p.1 with
              | false =>
                have HF : Hid (raErr none l = raErr (prevAt l (m + 1 + 1)) (l.drop (m + 1 + 1))) := Lib.hid (by rw [HZ.out, if_neg (by simp [raHits, hq]), prevAt_succ l (m + 1) p HP.out])
                unfold eqB at hq
                clear HZ
                go_wp2_with fail
                go_roundw
                case rel => exact ⟨m + 1 + 1, by omega, by go_num, HF.out, hG02⟩
                case measure => simp [intOf]; omega
              | true =>
                rcases (show p.2.1 < q.2.2.1 ∨ q.2.2.1 ≤ p.2.1 by omega) with hz | hz
                · have HF : Hid (raE l = 13) := Lib.hid (by rw [H.out, HZ.out, if_pos (by simp [raHits, hq, hz])])
                  unfold eqB at hq
                  clear HZ
                  go_wp2_with fail
                  go_ret
                  exact ⟨by rw [HF.out]; rfl, hG02⟩
                · have HF : Hid (raErr none l = raErr (prevAt l (m + 1 + 1)) (l.drop (m + 1 + 1))) := Lib.hid (by rw [HZ.out, if_neg (by simp [raHits, hq, hz]), prevAt_succ l (m + 1) p HP.out])
                  unfold eqB at hq
                  clear HZ
                  go_wp2_with fail
                  go_roundw
                  case rel => exact ⟨m + 1 + 1, by omega, by go_num, HF.out, hG02⟩
                  case measure => simp [intOf]; omega
        · have HF : Hid (raE l = chE p) := Lib.hid (by rw [H.out, HE.out, HS.out, if_neg hch])
          have hch' : (chE p != 0) = true := by rw [bne_iff_ne]; exact hch
          clear hch
          go_wp2_with fail
          go_ret
          exact ⟨by rw [HF.out]; rfl, hG01⟩
      · obtain rfl : k = l.length := by omega
        have HE2 : Hid (raE l = 0) := Lib.hid (by rw [H.out, HE.out, List.drop_length]; rfl)
        go_wp2_with fail
        go_ret
        exact ⟨by rw [HE2.out]; rfl, hG⟩
end Go.Proofs.YtgofeigebldkiaaDoor
