/- Generators: Extras, Fees. -/
import Derived.Test.YtgofeigebldkiaaDoorStream
import Derived.Test.YtgofeigebldkiaaDoorGenT
import Derived.Test.YtgofeigebldkiaaDoorFeo
import Derived.Test.YtgofeigebldkiaaDoorExr
import Derived.Test.YtgofeigebldkiaaDoorReg
import Derived.Test.YtgofeigebldkiaaDoorPck
namespace Go.Proofs.YtgofeigebldkiaaDoor
open Go.RowKit

def ex2 (x y : Ext) : Array Value := #[.string x.1, .int .i64 x.2.1, .int .i64 x.2.2.1, .int .i64 x.2.2.2, .string y.1, .int .i64 y.2.1, .int .i64 y.2.2.1, .int .i64 y.2.2.2]
theorem ex2_set (x y z : Ext) : ((((ex2 x y).setIfInBounds 4 (.string z.1)).setIfInBounds 5 (.int .i64 z.2.1)).setIfInBounds 6 (.int .i64 z.2.2.1)).setIfInBounds 7 (.int .i64 z.2.2.2) = ex2 x z := rfl
def ExtrasPost (s K : Nat) (w : World) (e : Ending) (w' : World) : Prop :=
  ∃ (v : Value) (l : List Ext), e = .returned v ∧ RdR w' 4 exC v l ∧ ExOk l ∧ l.length ≤ 2 ∧ (∀ r, v.ownBlock = some r → w.heap.size ≤ r) ∧ SB w' s (K + 13) ∧ G w w' (some s)
theorem ex2_post {w w' : World} {s K g : Nat} {x y : Ext} {m : Nat} (hB : Bk w' g 106 (ex2 x y)) (hg : w.heap.size ≤ g) (hm : m ≤ 2) (hx : Small x.1 ∧ bnd x.2.1 ∧ bnd x.2.2.1 ∧ bnd x.2.2.2) (hy : Small y.1 ∧ bnd y.2.1 ∧ bnd y.2.2.1 ∧ bnd y.2.2.2) (hSB : SB w' s (K + 13)) (hG : G w w' (some s)) :
    ExtrasPost s K w (.returned (.slice (some ⟨g, 0, none⟩) m 2)) w' := by
  have h1 : RdR w' 4 exC (.slice (some ⟨g, 0, none⟩) 2 2) [x, y] := hB.rd 4 2 rfl (by omega)
  refine ⟨_, [x, y].take m, rfl, RdR.prefix_ exC_sz h1 m hm, fun z hz => ?_, by simp; omega, fun r e => ?_, hSB, hG⟩
  · have := List.mem_of_mem_take hz
    simp only [List.mem_cons, List.mem_nil_iff, or_false] at this
    rcases this with rfl | rfl
    · exact hx
    · exact hy
  · obtain rfl := Option.some.inj e
    exact hg
set_option maxRecDepth 100000 in
set_option maxHeartbeats 8000000 in
theorem extras_c (w : World) (s : Nat) (K : Nat) (hs : SB w s K) (hk : K ≤ 900000000000) :
    Calls Tryd.prog 22 #[.pointer (some ⟨s, 0, none⟩)] w (ExtrasPost s K w) := by
  have hslt := hs.lt
  go_enter Tryd.func22, Tryd.ntmps22
  go_wp2_with fail
  refine (pick_c _ _ _ [0, 5, 100] _ _ K (hs.alloc _) (by omega) (by decide) (by decide) (Rd.newAt _ rfl rfl (by decide)) (hs.newAt _ _ _ (Nat.le_refl _))).mono ?_; rintro e w1 ⟨r1, rfl, hr1, hSB1, hG1⟩
  have hG01 := ((G.refl w (some s)).alloc _).trans hG1
  clear hG1 hs
  go_wp2_with fail
  refine (pick_c _ _ _ [0, 2] _ _ _ (hSB1.alloc _) (by omega) (by decide) (by decide) (Rd.newAt _ rfl rfl (by decide)) (hSB1.newAt _ _ _ (Nat.le_refl _))).mono ?_; rintro e w2 ⟨r2, rfl, hr2, hSB2, hG2⟩
  have hG02 := (hG01.alloc _).trans hG2
  clear hG2 hSB1 hG01
  go_wp2_with fail
  refine (pick_c _ _ _ [-1, 0, 7] _ _ _ (hSB2.alloc _) (by omega) (by decide) (by decide) (Rd.newAt _ rfl rfl (by decide)) (hSB2.newAt _ _ _ (Nat.le_refl _))).mono ?_; rintro e w3 ⟨r3, rfl, hr3, hSB3, hG3⟩
  have hG03 := (hG02.alloc _).trans hG3
  clear hG3 hSB2 hG02
  go_wp2_with fail
  refine (pick_c _ _ _ [0, 10] _ _ _ (hSB3.alloc _) (by omega) (by decide) (by decide) (Rd.newAt _ rfl rfl (by decide)) (hSB3.newAt _ _ _ (Nat.le_refl _))).mono ?_; rintro e w4 ⟨r4, rfl, hr4, hSB4, hG4⟩
  have hG04 := (hG03.alloc _).trans hG4
  clear hG4 hSB3 hG03
  go_wp2_with fail
  refine (pick_c _ _ _ [0, 3, 50] _ _ _ (hSB4.alloc _) (by omega) (by decide) (by decide) (Rd.newAt _ rfl rfl (by decide)) (hSB4.newAt _ _ _ (Nat.le_refl _))).mono ?_; rintro e w5 ⟨r5, rfl, hr5, hSB5, hG5⟩
  have hG05 := (hG04.alloc _).trans hG5
  clear hG5 hSB4 hG04
  go_wp2_with fail
  refine (pick_c _ _ _ [-1, -1, 20, 1000] _ _ _ (hSB5.alloc _) (by omega) (by decide) (by decide) (Rd.newAt _ rfl rfl (by decide)) (hSB5.newAt _ _ _ (Nat.le_refl _))).mono ?_; rintro e w6 ⟨r6, rfl, hr6, hSB6, hG6⟩
  have hG06 := (hG05.alloc _).trans hG6
  clear hG6 hSB5 hG05
  have b1 := bnd_pick hr1 (by decide)
  have b2 := bnd_pick hr2 (by decide)
  have b3 := bnd_pick hr3 (by decide)
  have b4 := bnd_pick hr4 (by decide)
  have b5 := bnd_pick hr5 (by decide)
  have b6 := bnd_pick hr6 (by decide)
  clear hr1 hr2 hr3 hr4 hr5 hr6
  have hgw := hG06.size
  have hB6 := Bk.new w6 106 (ex2 (⟨#[109, 97, 112]⟩, r1, r2, r3) (⟨#[115, 101, 97, 116]⟩, r4, r5, r6))
  have hX : Small (⟨#[109, 97, 112]⟩ : ByteArray) ∧ bnd r1 ∧ bnd r2 ∧ bnd r3 := ⟨small_of (by decide), b1, b2, b3⟩
  have hY : Small (⟨#[115, 101, 97, 116]⟩ : ByteArray) ∧ bnd r4 ∧ bnd r5 ∧ bnd r6 := ⟨small_of (by decide), b4, b5, b6⟩
  have HX := Lib.hid hX
  have HY := Lib.hid hY
  clear hX hY b1 b2 b3 b4 b5 b6
  have hSB7 := hSB6.alloc (.cells (ex2 (⟨#[109, 97, 112]⟩, r1, r2, r3) (⟨#[115, 101, 97, 116]⟩, r4, r5, r6)) 106)
  have hG07 := hG06.alloc (.cells (ex2 (⟨#[109, 97, 112]⟩, r1, r2, r3) (⟨#[115, 101, 97, 116]⟩, r4, r5, r6)) 106)
  go_wp2_with fail
  refine (flip_c _ _ _ _ hSB7 (by omega) (by omega)).mono ?_; rintro e w8 ⟨q, rfl, hSB8, hG8⟩
  have hsg : s ≠ w6.heap.size := by omega
  have hsg2 : s < w6.heap.size := by omega
  have hB8 := hB6.grown hG8 (fun e => hsg (Option.some.inj e).symm)
  have hG08 := hG07.trans hG8
  clear hB6 hSB7 hG07 hG8 hSB6 hG06
  generalize w6.heap.size = g at hB8 hgw hsg2 ⊢
  cases q with
  | false =>
    go_wp2_with fail
    refine (pick_c _ _ _ [0, 1, 2, 2] _ _ _ (hSB8.alloc _) (by omega) (by decide) (by decide) (Rd.newAt _ rfl rfl (by decide)) (hSB8.newAt _ _ _ (Nat.le_refl _))).mono ?_; rintro e w9 ⟨m, rfl, hm, hSB9, hG9⟩
    have hm2 : 0 ≤ m ∧ m ≤ 2 := by simp only [List.mem_cons, List.mem_nil_iff, or_false] at hm; omega
    obtain ⟨m0, m2⟩ := hm2
    obtain ⟨m, rfl⟩ := Int.eq_ofNat_of_zero_le m0
    have m2' : m ≤ 2 := by omega
    have hB9 := (hB8.alloc _).grown hG9 (fun e => by have := Option.some.inj e; omega)
    have hG09 := (hG08.alloc _).trans hG9
    clear hm
    go_wp2_with fail
    go_ret
    exact ex2_post hB9 hgw m2' HX.out HY.out (hSB9.le (by omega)) hG09
  | true =>
    go_wp2_with fail
    refine (some_c _ _ _ [⟨#[]⟩, ⟨#[65]⟩, ⟨#[109, 97, 112]⟩, ⟨#[115, 101, 97, 116]⟩] _ _ _ (hSB8.alloc _) (by omega) (by decide) (by decide) (Rd.newAt _ rfl rfl (by decide)) (hSB8.newAt _ _ _ (Nat.le_refl _))).mono ?_; rintro e w9 ⟨z, rfl, hz, hSB9, hG9⟩
    have hzs := small_pick hz (by decide)
    have hB9 := (hB8.alloc _).grown hG9 (fun e => by have := Option.some.inj e; omega)
    have hG09 := (hG08.alloc _).trans hG9
    clear hz hB8 hG08 hG9 hSB8
    go_wp2_with fail
    refine (odd_c _ _ _ _ _ hSB9 (by omega) (by omega) (by omega) (by omega) (by omega)).mono ?_; rintro e w10 ⟨y1, rfl, y10, y11, hSB10, hG10⟩
    have hB10 := hB9.grown hG10 (fun e => by have := Option.some.inj e; omega)
    have hG010 := hG09.trans hG10
    clear hB9 hG09 hG10 hSB9
    go_wp2_with fail
    refine (odd_c _ _ _ _ _ hSB10 (by omega) (by omega) (by omega) (by omega) (by omega)).mono ?_; rintro e w11 ⟨y2, rfl, y20, y21, hSB11, hG11⟩
    have hB11 := hB10.grown hG11 (fun e => by have := Option.some.inj e; omega)
    have hG011 := hG010.trans hG11
    clear hB10 hG010 hG11 hSB10
    have c4 := hB11.cell 4
    have c5 := hB11.cell 5
    have c6 := hB11.cell 6
    have c7 := hB11.cell 7
    have f4 := hB11.free 4
    have f5 := hB11.free 5
    have f6 := hB11.free 6
    have f7 := hB11.free 7
    rw [show ∀ x y : Ext, (ex2 x y)[4]? = some (.string y.1) from fun _ _ => rfl] at c4
    rw [show ∀ x y : Ext, (ex2 x y)[5]? = some (.int .i64 y.2.1) from fun _ _ => rfl] at c5
    rw [show ∀ x y : Ext, (ex2 x y)[6]? = some (.int .i64 y.2.2.1) from fun _ _ => rfl] at c6
    rw [show ∀ x y : Ext, (ex2 x y)[7]? = some (.int .i64 y.2.2.2) from fun _ _ => rfl] at c7
    have hB12 : Bk ((((w11.setCell ⟨g, 4, none⟩ (.string z)).setCell ⟨g, 5, none⟩ (.int .i64 y1)).setCell ⟨g, 6, none⟩ (.int .i64 0)).setCell ⟨g, 7, none⟩ (.int .i64 y2)) g 106 (ex2 (⟨#[109, 97, 112]⟩, r1, r2, r3) (z, y1, 0, y2)) := by
      rw [← ex2_set (⟨#[109, 97, 112]⟩, r1, r2, r3) (⟨#[115, 101, 97, 116]⟩, r4, r5, r6) (z, y1, 0, y2)]
      exact (((hB11.set 4 _).set 5 _).set 6 _).set 7 _
    have hSB12 := (((hSB11.setCell (p := ⟨g, 4, none⟩) hsg2 (.string z)).setCell (p := ⟨g, 5, none⟩) hsg2 (.int .i64 y1)).setCell (p := ⟨g, 6, none⟩) hsg2 (.int .i64 0)).setCell (p := ⟨g, 7, none⟩) hsg2 (.int .i64 y2)
    have hG012 := (((hG011.setCell (p := ⟨g, 4, none⟩) (.inl hgw) (.string z)).setCell (p := ⟨g, 5, none⟩) (.inl hgw) (.int .i64 y1)).setCell (p := ⟨g, 6, none⟩) (.inl hgw) (.int .i64 0)).setCell (p := ⟨g, 7, none⟩) (.inl hgw) (.int .i64 y2)
    have hz12 : ((((w11.setCell ⟨g, 4, none⟩ (.string z)).setCell ⟨g, 5, none⟩ (.int .i64 y1)).setCell ⟨g, 6, none⟩ (.int .i64 0)).setCell ⟨g, 7, none⟩ (.int .i64 y2)).heap.size = w11.heap.size := by simp [World.setCell]
    clear hB11 hSB11 hG011
    go_wp2_with fail
    generalize ((((w11.setCell ⟨g, 4, none⟩ (.string z)).setCell ⟨g, 5, none⟩ (.int .i64 y1)).setCell ⟨g, 6, none⟩ (.int .i64 0)).setCell ⟨g, 7, none⟩ (.int .i64 y2)) = w12 at hB12 hSB12 hG012 hz12 ⊢
    refine (pick_c _ _ _ [0, 1, 2, 2] _ _ _ (hSB12.alloc _) (by omega) (by decide) (by decide) (Rd.newAt _ hz12 rfl (by decide)) (hSB12.newAt _ _ _ (Nat.le_of_eq hz12))).mono ?_; rintro e w13 ⟨m, rfl, hm, hSB13, hG13⟩
    have hm2 : 0 ≤ m ∧ m ≤ 2 := by simp only [List.mem_cons, List.mem_nil_iff, or_false] at hm; omega
    obtain ⟨m0, m2⟩ := hm2
    obtain ⟨m, rfl⟩ := Int.eq_ofNat_of_zero_le m0
    have m2' : m ≤ 2 := by omega
    have hB13 := (hB12.alloc _).grown hG13 (fun e => by have := Option.some.inj e; omega)
    have hG013 := (hG012.alloc _).trans hG13
    clear hm
    go_wp2_with fail
    go_ret
    exact ex2_post hB13 hgw m2' HX.out ⟨hzs, ⟨y10, y11⟩, (by show bnd 0; unfold bnd; omega), ⟨y20, y21⟩⟩ (hSB13.le (by omega)) hG013
end Go.Proofs.YtgofeigebldkiaaDoor
