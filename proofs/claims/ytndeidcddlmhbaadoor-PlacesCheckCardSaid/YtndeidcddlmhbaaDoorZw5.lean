/- Wsi, Wsd, Wsc, Wse, Er2, Wlw, Lay. -/
import Derived.Test.YtndeidcddlmhbaaDoorZw4
import Derived.Test.YtndeidcddlmhbaaDoorZw2
import Derived.Test.YtndeidcddlmhbaaDoorZw1
import Derived.Test.YtndeidcddlmhbaaDoorRows
import Derived.Test.YtndeidcddlmhbaaDoorTie
import Derived.Test.YtndeidcddlmhbaaDoorCards
import Derived.LaidMore
import Derived.ChangeSame
import Derived.ProofKit
import Derived.OpenShut
import Derived.PinnedBridge
import Derived.Deep.DeepHandedRow
import Derived.Deep.DeepWitnessRowRef
/- Placed ones, drawn for wanted ones. Written by genwsg.py. -/
namespace Go.Proofs.YtndeidcddlmhbaaDoor
open Go.RowKit

def WspPost (s K : Nat) (w : World) (e : Ending) (w' : World) : Prop :=
  ∃ (v : Value) (l : List Wsp), e = .returned v ∧ OwnX 174 2 wspC w' w.heap.size v l ∧ WspOk l ∧ l.length ≤ 5 ∧ SB w' s (K + 100) ∧ G w w' (some s)
def WspGRel (w : World) (s K : Nat) (W : List Wsw) (s3 s8 : Value) (wr : World) : Prop :=
  ∃ (k : Nat) (l : List Wsp), k ≤ W.length ∧ l.length = k ∧ s8 = .int .i64 k ∧ OwnX 174 2 wspC wr w.heap.size s3 l ∧ WspOk l ∧ SB wr s (K + 4 * k) ∧ G w wr (some s)
set_option maxRecDepth 100000 in
set_option maxHeartbeats 8000000 in
theorem placed_c (v : Value) (W : List Wsw) (w : World) (s : Nat) (K : Nat) (hs : SB w s K) (hk : K ≤ 600000000000) (hr : RdR w 3 wswC v W) (hne : v.ownBlock ≠ some s) (hl : WswOk W) (hb : WswBd W) (hn : W.length ≤ 4) :
    Calls Tryd.prog 61 #[.pointer (some ⟨s, 0, none⟩), v] w (WspPost s K w) := by
  have hsw := hs.lt
  obtain ⟨a, cap, rfl, hcap, hm⟩ := RdR.form hr
  go_enter Tryd.func61, Tryd.ntmps61
  go_wp2_with fail
  go_loopw [5, 11] (WspGRel w s K W) (fun _ i _ => W.length - (intOf i).toNat)
  case atStart => exact ⟨0, [], by omega, rfl, rfl, World.ownsRow_nil _ _ _ _, fun x hx => (by cases hx), hs.le (by omega), G.refl _ _⟩
  case round =>
    obtain ⟨k, l, hkn, hlk, rfl, hown, hok, hSB, hG⟩ := hrel
    replace hr := Rd.grown hr hG (fun k e => by cases e; exact hne)
    clear hs
    have HOK := Lib.hid hok
    clear hok
    by_cases hlt : k < W.length
    · have HLK := Lib.hid hlk
      have HKN := Lib.hid hlt
      obtain ⟨⟨h, f, t⟩, hp⟩ : ∃ p, W[k]? = some p := ⟨_, List.getElem?_eq_getElem hlt⟩
      have HH : Hid (Small h) := Lib.hid (hl _ (List.mem_of_getElem? hp))
      have hf := hb _ (List.mem_of_getElem? hp)
      obtain ⟨f0, f1⟩ := hf
      dsimp only at f0 f1
      obtain ⟨bb, bo, rfl, -, -⟩ := RdR.elem wswC_sz hr (G.refl _ none) hp
      have HW := Lib.hid (wswRow hr (G.refl _ none) hp)
      have hB5 : Bk (wr.alloc (.cells #[.string h, .int .i64 f, .int .i64 t] 168)) wr.heap.size 168 #[.string h, .int .i64 f, .int .i64 t] := Bk.new wr 168 _
      have hown5 := OwnX.alloc hown (.cells #[.string h, .int .i64 f, .int .i64 t] 168)
      have hSB5 := hSB.alloc (.cells #[.string h, .int .i64 f, .int .i64 t] 168)
      have hG5 := hG.alloc (.cells #[.string h, .int .i64 f, .int .i64 t] 168)
      have hgs0 : s ≠ wr.heap.size := by have := hSB.lt; omega
      have hgo : some wr.heap.size ≠ u5.ownBlock := OwnX.ne hown (.inr (Nat.le_refl _))
      clear hlk hp hown hSB hG hr
      go_upto_region 5 with (refine wpList_load_at rfl 168 _ rfl ⟨bb, bo + k * 3, none⟩ rfl #[.string h, .int .i64 f, .int .i64 t] _ HW.out Tryd.underlying168 rfl (wsw_info (h, f, t)) ?_)
      clear HW
      generalize wr.alloc (.cells #[.string h, .int .i64 f, .int .i64 t] 168) = w5 at hB5 hown5 hSB5 hG5 ⊢
      generalize wr.heap.size = g at hB5 hgs0 hgo ⊢
      have c0 : w5.cell? ⟨g, 0, none⟩ = some (.string h) := hB5.cell 0
      have c1 : w5.cell? ⟨g, 1, none⟩ = some (.int .i64 f) := hB5.cell 1
      go_region_held3 (fun w' => w'.cell? ⟨g, 0, none⟩ = some (.string h) ∧ w'.cell? ⟨g, 1, none⟩ = some (.int .i64 f)) (first | exact ⟨c0, c1⟩ | exact hS6 | exact hS7 | go_keep) (first | (go_at_call 12; refine (pick_c _ _ _ [0, 0, 1, 2] _ _ _ ((hSB5.alloc _).quiet ((G.refl _ none).drew)) (by omega) (by decide) (by decide) ((Rd.newAt _ rfl rfl (by decide)).quiet ((G.refl _ none).drew)) (hSB5.newAt _ _ _ (Nat.le_refl _))).mono ?_; rintro e w6 ⟨r, rfl, hr, hSB6, hG6⟩; have hr0 : 0 ≤ r ∧ r ≤ 2 := (by simp only [List.mem_cons, List.mem_nil_iff, or_false] at hr; omega); obtain ⟨r0, r1⟩ := hr0; have hwr : IntKind.i64.wrap (f + r) = f + r := (by rw [IntKind.wrap_i64]; omega); have hP6 := ((hB5.alloc _).quiet ((G.refl _ none).drew)).grown hG6 (fun e => hgs0 (Option.some.inj e).symm); have hS6 : w6.cell? ⟨g, 0, none⟩ = some (.string h) ∧ w6.cell? ⟨g, 1, none⟩ = some (.int .i64 f) := ⟨hP6.cell 0, hP6.cell 1⟩; have hown6 := OwnX.kept (OwnX.drew (OwnX.alloc hown5 _)) hG6 hsw; have hG06 := (hG5.alloc _).drew.trans hG6; have hz6 := hG06.size) | (have hNN := Bk.new w6 174 #[.string h, .int .i64 (f + r)]; have hOO := OwnX.alloc hown6 (.cells #[.string h, .int .i64 (f + r)] 174); have hLL : l.length ≤ 1000 := (by have := HLK.out; omega); have hZZ : w.heap.size ≤ (w6.alloc (.cells #[.string h, .int .i64 (f + r)] 174)).heap.size := (by simp; omega); refine st_wp rfl (wp_append_x wsp_rowOk _ _ rfl w.heap.size u5 l rfl hOO w6.heap.size (h, f + r) rfl hNN hLL hZZ ?_); clear hNN hOO hLL hZZ; intro v' w7 hown7 hgrow; have hP7 := (hP6.alloc _).grown hgrow hgo; have hS7 : w7.cell? ⟨g, 0, none⟩ = some (.string h) ∧ w7.cell? ⟨g, 1, none⟩ = some (.int .i64 f) := ⟨hP7.cell 0, hP7.cell 1⟩))
      have hob := OwnX.low hown6
      go_wp2_with fail
      go_roundw
      case rel => exact ⟨k + 1, l ++ [(h, f + r)], (by have := HKN.out; omega), (by have := HLK.out; simp; omega), by go_num, hown7, HOK.out.snoc HH.out, ((hSB6.alloc _).own hgrow (fun r e => Nat.lt_of_lt_of_le hsw (hob r e))).le (by omega), (hG06.alloc _).other hgrow (fun r e => .inl (hob r e))⟩
      case measure => have := HKN.out; simp [intOf]; omega
    · obtain rfl : k = W.length := by omega
      have hl4 : l.length ≤ 4 := by omega
      have HL : Hid (W.length ≤ 4) := Lib.hid hn
      clear hlt hr hl hb
      rcases Nat.eq_zero_or_pos l.length with h0 | h0
      · obtain rfl : l = [] := List.eq_nil_of_length_eq_zero h0
        obtain ⟨aa, cc, hv, -, -⟩ := RdR.form (c := wspC) (Rd.of_owns hown)
        have hv' : u5 = .slice aa 0 cc := hv
        clear hv h0
        have HLK0 := Lib.hid hlk
        clear hlk
        rw [hv'] at hown
        subst hv'
        go_wp2_with fail
        refine (flip_c _ _ _ _ hSB (by omega) (by omega)).mono ?_; rintro e v51 ⟨q2, rfl, hSB51, hg⟩

        have hh := hg
        have hown51 := OwnX.kept hown hh hsw
        have hG51 := hG.trans hh
        clear hown hG hSB hg hh 
        cases q2 with
        | false =>
          go_wp2_with fail
          go_ret
          exact ⟨_, [], rfl, hown51, HOK.out, by simp, hSB51.le (by omega), hG51⟩
        | true =>
          have hob := OwnX.low hown51
          have hsz := hG51.size
          have hownA := OwnX.alloc hown51 (.cells #[.string ⟨#[122]⟩, .int .i64 0] 174)
          go_wp2_with (at_builtin; refine wpList_plain rfl fun K' hK' => wp_append_x wsp_rowOk _ _ rfl w.heap.size (.slice aa 0 cc) [] rfl hownA v51.heap.size ((⟨#[122]⟩ : ByteArray), (0 : Int)) rfl (Bk.new v51 _ _) (by simp) (by simp; omega) ?_; intro v8 w8 hown8 hgrow; refine hK' _ _ ?_)
          go_wp2_with fail
          go_ret
          exact ⟨_, [] ++ [((⟨#[122]⟩ : ByteArray), (0 : Int))], rfl, hown8, HOK.out.snoc (small_of (by decide)), by simp, ((hSB51.alloc _).own hgrow (fun r e => Nat.lt_of_lt_of_le hsw (hob r e))).le (by omega), (hG51.alloc _).other hgrow (fun r e => .inl (hob r e))⟩
      · obtain ⟨g, cap, cur, e, -⟩ := ws_form0 hown h0
        subst e
        have hgs := OwnX.low hown g rfl
        have h0i : ((0 : Int) < (l.length : Int)) := by omega
        have HLK0 := Lib.hid hlk
        clear h0 hlk
        go_wp2_with fail
        refine (flip_c _ _ _ _ hSB (by omega) (by omega)).mono ?_; rintro e v31 ⟨q, rfl, hSB31, hg⟩

        have hh := hg
        have hown31 := OwnX.kept hown hh hsw
        have hG31 := hG.trans hh
        clear hown hG hSB hg hh 
        cases q with
        | false =>
          go_wp2_with fail
          refine (flip_c _ _ _ _ hSB31 (by omega) (by omega)).mono ?_; rintro e v61 ⟨q2, rfl, hSB61, hg⟩

          have hh := hg
          have hown61 := OwnX.kept hown31 hh hsw
          have hG61 := hG31.trans hh
          clear hown31 hG31 hSB31 hg hh 
          cases q2 with
          | false =>
            go_wp2_with fail
            go_ret
            exact ⟨_, l, rfl, hown61, HOK.out, by omega, hSB61.le (by omega), hG61⟩
          | true =>
            have hob := OwnX.low hown61
            have hsz := hG61.size
            have hownA := OwnX.alloc hown61 (.cells #[.string ⟨#[122]⟩, .int .i64 0] 174)
            go_wp2_with (at_builtin; refine wpList_plain rfl fun K' hK' => wp_append_x wsp_rowOk _ _ rfl w.heap.size (.slice (some ⟨g, 0, none⟩) l.length cap) l rfl hownA v61.heap.size ((⟨#[122]⟩ : ByteArray), (0 : Int)) rfl (Bk.new v61 _ _) (by omega) (by simp; omega) ?_; intro v8 w8 hown8 hgrow; refine hK' _ _ ?_)
            go_wp2_with fail
            go_ret
            exact ⟨_, l ++ [((⟨#[122]⟩ : ByteArray), (0 : Int))], rfl, hown8, HOK.out.snoc (small_of (by decide)), by simp; omega, ((hSB61.alloc _).own hgrow (fun r e => Nat.lt_of_lt_of_le hsw (hob r e))).le (by omega), (hG61.alloc _).other hgrow (fun r e => .inl (hob r e))⟩
        | true =>
          go_wp2_with fail
          refine (next_c _ _ _ _ hSB31 (by omega) (by omega)).mono ?_; rintro e v81 ⟨j, rfl, hj, hSB81, hg⟩
          obtain ⟨j0, j1⟩ := hj
          obtain ⟨j, rfl⟩ := Int.eq_ofNat_of_zero_le j0
          have jl : j < l.length := by omega
          have jli : (j : Int) < (l.length : Int) := by omega
          clear j1
          have hh := hg
          have hown81 := OwnX.kept hown31 hh hsw
          have hG81 := hG31.trans hh
          clear hown31 hG31 hSB31 hg hh 
          obtain ⟨⟨z1, z2⟩, hpj⟩ : ∃ p, l[j]? = some p := ⟨_, List.getElem?_eq_getElem jl⟩
          have HPJ := Lib.hid hpj
          have HPG : Hid (Small z1) := Lib.hid (HOK.out _ (List.mem_of_getElem? hpj))
          clear hpj
          have hgsg : s < g := Nat.lt_of_lt_of_le hsw hgs
          have c0 := RdR.cell wspC_sz (Rd.of_owns hown81) (G.refl _ none) HPJ.out 0 (.string z1) rfl
          simp only [Nat.add_zero, Nat.zero_add] at c0
          go_wp2_with fail
          refine (some_c _ _ _ [z1, ⟨#[]⟩, ⟨#[118, 57]⟩] _ _ _ (hSB81.alloc _) (by omega) (by decide) (by decide) (Rd.newAt _ rfl rfl (by decide)) (hSB81.newAt _ _ _ (Nat.le_refl _))).mono ?_; rintro e v82 ⟨n7, rfl, hp, hSB82, hg⟩
          have Hn7 : Hid (Small n7) := Lib.hid (by
            simp only [List.mem_cons, List.mem_nil_iff, or_false] at hp
            rcases hp with rfl | rfl | rfl
            · exact HPG.out
            · exact small_of (by decide)
            · exact small_of (by decide)
          )
          have hh := ((G.refl v81 (some s)).alloc (.cells _ 9)).trans hg
          have hown82 := OwnX.kept hown81 hh hsw
          have hG82 := hG81.trans hh
          clear hown81 hG81 hSB81 hg hh hp
          clear c0
          go_wp2_with fail
          refine (odd_c _ _ _ _ _ hSB82 (by omega) (by omega) (by omega) (by omega) (by omega)).mono ?_; rintro e v83 ⟨o1, rfl, o10, o11, hSB83, hg⟩

          have hh := hg
          have hown83 := OwnX.kept hown82 hh hsw
          have hG83 := hG82.trans hh
          clear hown82 hG82 hSB82 hg hh 
          have d0 := RdR.cell wspC_sz (Rd.of_owns hown83) (G.refl _ none) HPJ.out 0 (.string z1) rfl
          have f0 := ownsRow_free hown83 (j * 2 + 0)
          have d1 := RdR.cell wspC_sz (Rd.of_owns hown83) (G.refl _ none) HPJ.out 1 (.int .i64 z2) rfl
          have f1 := ownsRow_free hown83 (j * 2 + 1)
          have q1 := OwnX.set wspC_sz hown83 HPJ.out (q := (n7, z2)) 0 (.string n7) (by omega) rfl
          have q2 := OwnX.set wspC_sz q1 (show (l.set j (n7, z2))[j]? = some (n7, z2) by rw [List.getElem?_set_self jl]) (q := (n7, o1)) 1 (.int .i64 o1) (by omega) rfl
          rw [List.set_set] at q2
          simp only [Nat.zero_add, Nat.add_zero] at d0 d1 f0 q2
          have hownS : OwnX 174 2 wspC (((v83.setCell ⟨g, j * 2, none⟩ (.string n7))).setCell ⟨g, j * 2 + 1, none⟩ (.int .i64 o1)) w.heap.size (.slice (some ⟨g, 0, none⟩) l.length cap) (l.set j (n7, o1)) := by unfold OwnX; rw [List.length_set]; exact q2
          have hSBS := (hSB83.setCell (p := ⟨g, j * 2, none⟩) hgsg (.string n7)).setCell (p := ⟨g, j * 2 + 1, none⟩) hgsg (.int .i64 o1)
          have hGS := (hG83.setCell (p := ⟨g, j * 2, none⟩) (.inl hgs) (.string n7)).setCell (p := ⟨g, j * 2 + 1, none⟩) (.inl hgs) (.int .i64 o1)
          have HOK2 := Lib.hid (HOK.out.set (r := (n7, o1)) Hn7.out j)
          have HLS : Hid ((l.set j (n7, o1)).length ≤ 4) := Lib.hid (by rw [List.length_set]; exact hl4)
          clear q1 q2 hown83 hSB83 hG83
          go_upto_region 10 with fail
          clear d0 d1 f0 f1
          generalize (v83.setCell ⟨g, j * 2, none⟩ (.string n7)).setCell ⟨g, j * 2 + 1, none⟩ (.int .i64 o1) = wS at hownS hSBS hGS ⊢
          go_wp2_with fail
          refine (flip_c _ _ _ _ hSBS (by omega) (by omega)).mono ?_; rintro e v84 ⟨q2, rfl, hSB84, hg⟩

          have hh := hg
          have hown84 := OwnX.kept hownS hh hsw
          have hG84 := hGS.trans hh
          clear hownS hGS hSBS hg hh 
          cases q2 with
          | false =>
            go_wp2_with fail
            go_ret
            exact ⟨_, (l.set j (n7, o1)), rfl, hown84, HOK2.out, by have := HLS.out; omega, hSB84.le (by omega), hG84⟩
          | true =>
            have hob := OwnX.low hown84
            have hsz := hG84.size
            have hownA := OwnX.alloc hown84 (.cells #[.string ⟨#[122]⟩, .int .i64 0] 174)
            go_wp2_with (at_builtin; refine wpList_plain rfl fun K' hK' => wp_append_x wsp_rowOk _ _ rfl w.heap.size (.slice (some ⟨g, 0, none⟩) l.length cap) (l.set j (n7, o1)) rfl hownA v84.heap.size ((⟨#[122]⟩ : ByteArray), (0 : Int)) rfl (Bk.new v84 _ _) (by have := HLS.out; omega) (by simp; omega) ?_; intro v8 w8 hown8 hgrow; refine hK' _ _ ?_)
            go_wp2_with fail
            go_ret
            exact ⟨_, (l.set j (n7, o1)) ++ [((⟨#[122]⟩ : ByteArray), (0 : Int))], rfl, hown8, HOK2.out.snoc (small_of (by decide)), by have := HLS.out; rw [List.length_append]; simp only [List.length_cons, List.length_nil]; omega, ((hSB84.alloc _).own hgrow (fun r e => Nat.lt_of_lt_of_le hsw (hob r e))).le (by omega), (hG84.alloc _).other hgrow (fun r e => .inl (hob r e))⟩
end Go.Proofs.YtndeidcddlmhbaaDoor

/- What is lost: shift.lostBy, Lost; the reference's LostOf. Written by genwsd.py. -/
namespace Go.Proofs.YtndeidcddlmhbaaDoor
open Go.RowKit

theorem flag0_c (w : World) : Calls Tryd.prog 119 #[.bool false] w fun e w' => e = .returned (.int .i64 0) ∧ w' = w := by
  go_enter Tryd.func119, Tryd.ntmps119
  go_wp2_with fail
  go_ret
  exact ⟨rfl, rfl⟩
theorem flag1_c (w : World) : Calls Tryd.prog 119 #[.bool true] w fun e w' => e = .returned (.int .i64 1) ∧ w' = w := by
  go_enter Tryd.func119, Tryd.ntmps119
  go_wp2_with fail
  go_ret
  exact ⟨rfl, rfl⟩
theorem innS_c (a lo hi : Int) (b : Bool) (hb : inB a lo hi = b) (w : World) : Calls Tryd.prog 114 #[.int .i64 a, .int .i64 lo, .int .i64 hi] w fun e w' => e = .returned (.bool b) ∧ w' = w := by
  subst hb
  exact (inn_c a lo hi w).mono fun _ _ h => ⟨h.1, h.2.symm⟩
theorem beq_str9 (a b : ByteArray) : (a.toList == b.toList) = decide (a = b) := by
  by_cases e : a = b
  · subst e; simp
  · rw [decide_eq_false e]
    exact beq_eq_false_iff_ne.2 (fun e2 => e (eqB_iff.1 (by unfold eqB; rw [e2]; simp)))
theorem take_sx {α : Type} {l : List α} {k : Nat} {x : α} (h : l[k]? = some x) : l.take (k + 1) = l.take k ++ [x] := by rw [List.take_add_one, h]; rfl
theorem WsbIn.take {b : List Wsb} (h : WsbIn b) (k : Nat) : WsbIn (b.take k) := fun x hx => h x (List.mem_of_mem_take hx)
def WsbTo (b : List Wsb) : Prop := ∀ x ∈ b, 0 ≤ x.2.1 ∧ x.2.1 ≤ x.2.2.1 ∧ x.2.2.1 ≤ 4001
theorem wsbErr_to {b : List Wsb} (h : wsbErr b = 0) : WsbTo b := by
  induction b with
  | nil => intro x hx; cases hx
  | cons a r ih =>
    unfold wsbErr at h
    split at h
    · omega
    split at h
    · omega
    rename_i k2
    split at h
    · omega
    intro x hx
    rcases List.mem_cons.1 hx with rfl | hx
    · simp [arB, inB] at k2; omega
    · exact ih h x hx
theorem wsbE_to {b : List Wsb} (h : wsbE b = 0) : WsbTo b := by
  unfold wsbE at h
  split at h
  · omega
  · exact wsbErr_to h
def LbRel (w : World) (p : Wsp) (b : List Wsb) (s5 i : Value) (wr : World) : Prop := ∃ k : Nat, k ≤ b.length ∧ i = .int .i64 k ∧ s5 = .int .i64 (lbL p (b.take k)) ∧ G w wr none
set_option maxRecDepth 100000 in
set_option maxHeartbeats 4000000 in
theorem lostBy_c (v : Value) (b : List Wsb) (y : ByteArray) (d : Int) (w : World) (hr : RdR w 4 wsbC v b) (hb : WsbIn b) (hn : b.length ≤ 200) :
    Calls Tryd.prog 113 #[v, .agg #[.string y, .int .i64 d]] w fun e w' => e = .returned (.int .i64 (lbL (y, d) b)) ∧ G w w' none := by
  obtain ⟨a, cap, rfl, hcap, hm⟩ := RdR.form hr
  have hP := Bk.new w 174 #[.string y, .int .i64 d]
  have hG := (G.refl w none).alloc (.cells #[.string y, .int .i64 d] 174)
  have HR := Lib.hid (hr.quiet hG)
  clear hr
  go_enter Tryd.func113, Tryd.ntmps113
  go_upto_region 1 with fail
  generalize w.alloc (.cells #[.string y, .int .i64 d] 174) = w1 at hP hG HR ⊢
  generalize w.heap.size = gp at hP ⊢
  have HB := Lib.hid hP
  clear hP
  go_wp2_with fail
  go_loopw [5, 10] (LbRel w1 (y, d) b) (fun _ i _ => b.length - (intOf i).toNat)
  case atStart => exact ⟨0, by omega, rfl, rfl, G.refl _ _⟩
  case round =>
    obtain ⟨k, hk, rfl, rfl, hGr⟩ := hrel
    by_cases hlt : k < b.length
    · obtain ⟨⟨h, f, t, c⟩, hx⟩ : ∃ p, b[k]? = some p := ⟨_, List.getElem?_eq_getElem hlt⟩
      have HSN : Hid (lbL (y, d) (b.take (k + 1)) = lbL (y, d) (b.take k) + (if h = y ∧ f ≤ d ∧ d < t then c else 0)) := Lib.hid (by rw [take_sx hx, lbL_snoc]; rfl)
      have hcb := hb _ (List.mem_of_getElem? hx)
      obtain ⟨c0, c1⟩ := hcb
      dsimp only at c0 c1
      have hlb := lbL_bnd (hb.take k) (y, d)
      have htl : (b.take k).length ≤ 200 := by rw [List.length_take]; omega
      obtain ⟨L, hL⟩ : ∃ L, lbL (y, d) (b.take k) = L := ⟨_, rfl⟩
      rw [hL] at HSN hlb
      have hlb2 : 0 ≤ L ∧ L ≤ 200000000 := by omega
      obtain ⟨L0, L1⟩ := hlb2
      obtain ⟨bb, bo, rfl, -, -⟩ := RdR.elem wsbC_sz HR.out hGr hx
      have HW := Lib.hid (wsbRow HR.out hGr hx)
      have HK := Lib.hid hlt
      have hB5 : Bk (wr.alloc (.cells #[.string h, .int .i64 f, .int .i64 t, .int .i64 c] 171)) wr.heap.size 171 #[.string h, .int .i64 f, .int .i64 t, .int .i64 c] := Bk.new wr 171 _
      have hG5 := hGr.alloc (.cells #[.string h, .int .i64 f, .int .i64 t, .int .i64 c] 171)
      have hP5 := HB.out.quiet hG5
      rw [hL]
      clear hx hGr hL hlb htl
      go_upto_region 5 with (refine wpList_load_at rfl 171 _ rfl ⟨bb, bo + k * 4, none⟩ rfl #[.string h, .int .i64 f, .int .i64 t, .int .i64 c] _ HW.out Tryd.underlying171 rfl (wsb_info (h, f, t, c)) ?_)
      clear HW
      generalize wr.alloc (.cells #[.string h, .int .i64 f, .int .i64 t, .int .i64 c] 171) = w5 at hB5 hG5 hP5 ⊢
      generalize wr.heap.size = g at hB5 ⊢
      have d0 : w5.cell? ⟨g, 0, none⟩ = some (.string h) := hB5.cell 0
      have d1 : w5.cell? ⟨g, 1, none⟩ = some (.int .i64 f) := hB5.cell 1
      have d2 : w5.cell? ⟨g, 2, none⟩ = some (.int .i64 t) := hB5.cell 2
      have d3 : w5.cell? ⟨g, 3, none⟩ = some (.int .i64 c) := hB5.cell 3
      have p0 : w5.cell? ⟨gp, 0, none⟩ = some (.string y) := hP5.cell 0
      have p1 : w5.cell? ⟨gp, 1, none⟩ = some (.int .i64 d) := hP5.cell 1
      clear hB5 hP5
      have hq := beq_str9 h y
      rcases (show ¬ h = y ∨ (h = y ∧ ¬ f ≤ d) ∨ (h = y ∧ f ≤ d ∧ ¬ d < t) ∨ (h = y ∧ f ≤ d ∧ d < t) by by_cases e1 : h = y <;> by_cases e2 : f ≤ d <;> by_cases e3 : d < t <;> simp [e1, e2, e3]) with e1 | ⟨e1, e2⟩ | ⟨e1, e2, e3⟩ | ⟨e1, e2, e3⟩
      · rw [decide_eq_false e1] at hq
        have HF : Hid (lbL (y, d) (b.take (k + 1)) = L) := Lib.hid (by rw [HSN.out, if_neg (fun q => e1 q.1)]; omega)
        clear e1
        go_wp2_with fail
        go_roundw
        case rel => exact ⟨k + 1, (by have := HK.out; omega), by go_num, by rw [HF.out], hG5⟩
        case measure => have := HK.out; simp [intOf]; omega
      · rw [decide_eq_true e1] at hq
        have HF : Hid (lbL (y, d) (b.take (k + 1)) = L) := Lib.hid (by rw [HSN.out, if_neg (fun q => e2 q.2.1)]; omega)
        clear e1
        go_wp2_with fail
        go_roundw
        case rel => exact ⟨k + 1, (by have := HK.out; omega), by go_num, by rw [HF.out], hG5⟩
        case measure => have := HK.out; simp [intOf]; omega
      · rw [decide_eq_true e1] at hq
        have HF : Hid (lbL (y, d) (b.take (k + 1)) = L) := Lib.hid (by rw [HSN.out, if_neg (fun q => e3 q.2.2)]; omega)
        clear e1
        go_wp2_with fail
        go_roundw
        case rel => exact ⟨k + 1, (by have := HK.out; omega), by go_num, by rw [HF.out], hG5⟩
        case measure => have := HK.out; simp [intOf]; omega
      · rw [decide_eq_true e1] at hq
        have HF : Hid (lbL (y, d) (b.take (k + 1)) = L + c) := Lib.hid (by rw [HSN.out, if_pos ⟨e1, e2, e3⟩])
        clear e1
        go_wp2_with fail
        go_roundw
        case rel => exact ⟨k + 1, (by have := HK.out; omega), by go_num, by rw [HF.out], hG5⟩
        case measure => have := HK.out; simp [intOf]; omega
    · obtain rfl : k = b.length := by omega
      rw [List.take_length]
      go_wp2_with fail
      go_ret
      exact ⟨rfl, hG.trans hGr⟩
def wlsE (b : List Wsb) (l : List Wsp) : Int := if wsbE b = 0 then wspE l else wsbE b
def wlsN (b : List Wsb) (l : List Wsp) : Int := if wlsE b l = 0 then loL b l else 0
def WlsRel (w : World) (b : List Wsb) (l : List Wsp) (s8 i : Value) (wr : World) : Prop := ∃ k : Nat, k ≤ l.length ∧ i = .int .i64 k ∧ s8 = .int .i64 (loL b (l.take k)) ∧ G w wr none
set_option maxRecDepth 100000 in
set_option maxHeartbeats 4000000 in
theorem lost_c (v u : Value) (b : List Wsb) (l : List Wsp) (w : World) (hr : RdR w 4 wsbC v b) (hs : RdR w 2 wspC u l) (hb : WsbOk b) (hl : WspOk l) (hn : b.length ≤ 1000) (hn2 : l.length ≤ 1000) :
    Calls Tryd.prog 62 #[v, u] w fun e w' => e = .returned (.tuple #[.int .i64 (wlsN b l), .int .i64 (wlsE b l)]) ∧ G w w' none := by
  obtain ⟨a1, cap1, rfl, hcap1, hm1⟩ := RdR.form hr
  obtain ⟨a2, cap2, rfl, hcap2, hm2⟩ := RdR.form hs
  obtain ⟨E, hE⟩ : ∃ E, wlsE b l = E := ⟨_, rfl⟩
  obtain ⟨N, hN⟩ : ∃ N, wlsN b l = N := ⟨_, rfl⟩
  have HN : Hid (N = if E = 0 then loL b l else 0) := Lib.hid (by rw [← hN, ← hE]; rfl)
  have HE : Hid (E = if wsbE b = 0 then wspE l else wsbE b) := Lib.hid (by rw [← hE]; rfl)
  rw [hE, hN]
  clear hE hN
  go_enter Tryd.func62, Tryd.ntmps62
  go_wp2_with fail
  refine (checkBusy_c _ b _ hr hb (by omega)).mono ?_; rintro e w1 ⟨rfl, hG1⟩
  replace hr := hr.quiet hG1
  replace hs := hs.quiet hG1
  by_cases e1 : wsbE b = 0
  rotate_left
  · obtain rfl : E = wsbE b := by rw [HE.out, if_neg e1]
    obtain rfl : N = 0 := by rw [HN.out, if_neg e1]
    have hb : (wsbE b != 0) = true := bne_iff_ne.2 e1
    clear HE HN e1
    go_wp2_with fail
    go_ret2
    exact ⟨rfl, hG1⟩
  have HE1 : Hid (E = wspE l) := Lib.hid (by rw [HE.out, if_pos e1])
  have HBI := Lib.hid (wsbE_in e1)
  rw [e1]
  clear e1 HE
  go_wp2_with fail
  refine (checkRight_c _ l _ hs hl (by omega)).mono ?_; rintro e w2 ⟨rfl, hG2⟩
  replace hr := hr.quiet hG2
  replace hs := hs.quiet hG2
  have hG := hG1.trans hG2
  clear hG1 hG2
  by_cases e1 : wspE l = 0
  rotate_left
  · obtain rfl : E = wspE l := HE1.out
    obtain rfl : N = 0 := by rw [HN.out, if_neg e1]
    have hb : (wspE l != 0) = true := bne_iff_ne.2 e1
    clear HE1 HN e1
    go_wp2_with fail
    go_ret2
    exact ⟨rfl, hG⟩
  obtain rfl : E = 0 := by rw [HE1.out, e1]
  obtain rfl : N = loL b l := by rw [HN.out, if_pos rfl]
  have HPI := Lib.hid (wspE_in e1)
  rw [e1]
  clear e1 HE1 HN
  have HR := Lib.hid hr
  have HS := Lib.hid hs
  clear hr hs
  go_wp2_with fail
  go_loopw [8, 23] (WlsRel w2 b l) (fun _ i _ => l.length - (intOf i).toNat)
  case atStart => exact ⟨0, by omega, rfl, rfl, G.refl _ _⟩
  case round =>
    obtain ⟨k, hk, rfl, rfl, hGr⟩ := hrel
    by_cases hlt : k < l.length
    · obtain ⟨⟨y, d⟩, hx⟩ : ∃ p, l[k]? = some p := ⟨_, List.getElem?_eq_getElem hlt⟩
      have HSN : Hid (loL b (l.take (k + 1)) = loL b (l.take k) + lbL (y, d) b) := Lib.hid (by rw [take_sx hx, loL_snoc])
      have hlb := lbL_bnd HBI.out.1 (y, d)
      have hll := loL_bnd HBI.out.1 HBI.out.2 (l.take k)
      have htl : (l.take k).length ≤ 6 := by rw [List.length_take]; have := HPI.out.2; omega
      have hbl := HBI.out.2
      obtain ⟨L, hL⟩ : ∃ L, loL b (l.take k) = L := ⟨_, rfl⟩
      obtain ⟨M, hM⟩ : ∃ M, lbL (y, d) b = M := ⟨_, rfl⟩
      have HCB := Lib.hid (fun w' (q : G w2 w' none) => lostBy_c _ b y d w' (HR.out.quiet q) HBI.out.1 HBI.out.2)
      rw [hL] at HSN hll
      rw [hM] at HSN hlb HCB
      have hb1 : 0 ≤ L ∧ L ≤ 1200000000 := by omega
      have hb2 : 0 ≤ M ∧ M ≤ 200000000 := by omega
      obtain ⟨L0, L1⟩ := hb1
      obtain ⟨M0, M1⟩ := hb2
      obtain ⟨bb, bo, rfl, -, -⟩ := RdR.elem wspC_sz HS.out hGr hx
      have HW := Lib.hid (wspRow HS.out hGr hx)
      have HK := Lib.hid hlt
      have hB5 : Bk (wr.alloc (.cells #[.string y, .int .i64 d] 174)) wr.heap.size 174 #[.string y, .int .i64 d] := Bk.new wr 174 _
      have hG5 := hGr.alloc (.cells #[.string y, .int .i64 d] 174)
      rw [hL]
      clear hx hGr hL hM hlb hll htl hbl
      go_upto_region 11 with (refine wpList_load_at rfl 174 _ rfl ⟨bb, bo + k * 2, none⟩ rfl #[.string y, .int .i64 d] _ HW.out Tryd.underlying174 rfl (wsp_info (y, d)) ?_)
      clear HW
      generalize wr.alloc (.cells #[.string y, .int .i64 d] 174) = w5 at hB5 hG5 ⊢
      generalize wr.heap.size = g at hB5 ⊢
      go_wp2_with (refine wpList_load_row rfl 174 _ rfl g rfl 174 #[.string y, .int .i64 d] (0, 0) _ hB5 Tryd.underlying174 rfl (wsp_info (y, d)) ?_)
      refine (HCB.out _ hG5).mono ?_; rintro e w6 ⟨rfl, hg⟩
      have hG6 := hG5.trans hg
      clear hB5 hG5 hg
      go_wp2_with fail
      go_roundw
      case rel => exact ⟨k + 1, (by have := HK.out; omega), by go_num, by rw [HSN.out], hG6⟩
      case measure => have := HK.out; simp [intOf]; omega
    · obtain rfl : k = l.length := by omega
      rw [List.take_length]
      go_wp2_with fail
      go_ret2
      exact ⟨rfl, hG.trans hGr⟩
def LoRel (w : World) (b : List Wsb) (l : List Wsp) (s5 i : Value) (wr : World) : Prop := ∃ k : Nat, k ≤ b.length ∧ i = .int .i64 k ∧ s5 = .int .i64 (roL l (b.take k)) ∧ G w wr none
def LoiRel (w : World) (l : List Wsp) (R : Int) (x : Wsb) (s5 i : Value) (wr : World) : Prop := ∃ k : Nat, k ≤ l.length ∧ i = .int .i64 k ∧ s5 = .int .i64 (R + lpL x (l.take k)) ∧ G w wr none
set_option maxRecDepth 100000 in
set_option maxHeartbeats 8000000 in
theorem lostOf_c (v u : Value) (b : List Wsb) (l : List Wsp) (w : World) (hr : RdR w 4 wsbC v b) (hs : RdR w 2 wspC u l) (he : wsbE b = 0) (hl : wspE l = 0) :
    Calls Tryd.prog 71 #[v, u] w fun e w' => e = .returned (.int .i64 (roL l b)) ∧ G w w' none := by
  have HBI := Lib.hid (wsbE_in he)
  have HTO := Lib.hid (wsbE_to he)
  have HPI := Lib.hid (wspE_in hl)
  have hnb := HBI.out.2
  have hnl := HPI.out.2
  obtain ⟨a1, cap1, rfl, hcap1, hm1⟩ := RdR.form hr
  obtain ⟨a2, cap2, rfl, hcap2, hm2⟩ := RdR.form hs
  have HR := Lib.hid hr
  have HS := Lib.hid hs
  clear hr hs he hl
  go_enter Tryd.func71, Tryd.ntmps71
  go_wp2_with fail
  go_loopw [5, 12] (LoRel w b l) (fun _ i _ => b.length - (intOf i).toNat)
  case atStart => exact ⟨0, by omega, rfl, rfl, G.refl _ _⟩
  case round =>
    obtain ⟨k, hk, rfl, rfl, hGr⟩ := hrel
    by_cases hlt : k < b.length
    · obtain ⟨⟨h, f, t, c⟩, hx⟩ : ∃ p, b[k]? = some p := ⟨_, List.getElem?_eq_getElem hlt⟩
      have HRS : Hid (roL l (b.take (k + 1)) = roL l (b.take k) + lpL (h, f, t, c) l) := Lib.hid (by rw [take_sx hx, roL_snoc])
      have hcb := HBI.out.1 _ (List.mem_of_getElem? hx)
      have HCB := Lib.hid hcb
      have hto := HTO.out _ (List.mem_of_getElem? hx)
      dsimp only at hto
      obtain ⟨c0, c1⟩ := hcb
      obtain ⟨t0, t1, t2⟩ := hto
      dsimp only at c0 c1
      have hrb := roL_bnd (HBI.out.1.take k) (l := l) hnl
      have htl : (b.take k).length ≤ 200 := by rw [List.length_take]; omega
      obtain ⟨R, hR⟩ : ∃ R, roL l (b.take k) = R := ⟨_, rfl⟩
      rw [hR] at HRS hrb
      have hrb2 : 0 ≤ R ∧ R ≤ 1200000000 := by omega
      obtain ⟨R0, R1⟩ := hrb2
      obtain ⟨bb, bo, rfl, -, -⟩ := RdR.elem wsbC_sz HR.out hGr hx
      have HW := Lib.hid (wsbRow HR.out hGr hx)
      have HK := Lib.hid hlt
      have hB5 : Bk (wr.alloc (.cells #[.string h, .int .i64 f, .int .i64 t, .int .i64 c] 171)) wr.heap.size 171 #[.string h, .int .i64 f, .int .i64 t, .int .i64 c] := Bk.new wr 171 _
      have hG5 := hGr.alloc (.cells #[.string h, .int .i64 f, .int .i64 t, .int .i64 c] 171)
      rw [hR]
      clear hx hGr hR hrb htl
      go_upto_region 5 with (refine wpList_load_at rfl 171 _ rfl ⟨bb, bo + k * 4, none⟩ rfl #[.string h, .int .i64 f, .int .i64 t, .int .i64 c] _ HW.out Tryd.underlying171 rfl (wsb_info (h, f, t, c)) ?_)
      clear HW
      generalize wr.alloc (.cells #[.string h, .int .i64 f, .int .i64 t, .int .i64 c] 171) = w5 at hB5 hG5 ⊢
      generalize wr.heap.size = g at hB5 ⊢
      have HB5 := Lib.hid hB5
      have HG5 := Lib.hid hG5
      have HS5 := Lib.hid (HS.out.quiet hG5)
      clear hB5 hG5
      have hwt : IntKind.i64.wrap (t - 1) = t - 1 := by rw [IntKind.wrap_i64]; omega
      go_wp2_with fail
      go_loopw [5, 18] (LoiRel w5 l R (h, f, t, c)) (fun _ i _ => l.length - (intOf i).toNat)
      case atStart => exact ⟨0, by omega, rfl, by rw [List.take_zero]; show _ = Value.int .i64 (R + 0); rw [Int.add_zero], G.refl _ _⟩
      case round =>
        obtain ⟨j, hj, rfl, rfl, hGq⟩ := hrel
        by_cases hjl : j < l.length
        · obtain ⟨⟨y, d⟩, hy⟩ : ∃ p, l[j]? = some p := ⟨_, List.getElem?_eq_getElem hjl⟩
          have HPS : Hid (lpL (h, f, t, c) (l.take (j + 1)) = lpL (h, f, t, c) (l.take j) + (if h = y ∧ f ≤ d ∧ d < t then c else 0)) := Lib.hid (by rw [take_sx hy, lpL_snoc]; rfl)
          have hdb := HPI.out.1 _ (List.mem_of_getElem? hy)
          dsimp only at hdb
          obtain ⟨dd0, dd1⟩ := hdb
          have hlb := lpL_bnd (x := (h, f, t, c)) HCB.out (l.take j)
          have htl : (l.take j).length ≤ 6 := by rw [List.length_take]; omega
          obtain ⟨L, hL⟩ : ∃ L, lpL (h, f, t, c) (l.take j) = L := ⟨_, rfl⟩
          rw [hL] at HPS hlb
          have hlb2 : 0 ≤ L ∧ L ≤ 6000000 := by omega
          obtain ⟨L0, L1⟩ := hlb2
          obtain ⟨bb2, bo2, rfl, -, -⟩ := RdR.elem wspC_sz HS5.out hGq hy
          have HW := Lib.hid (wspRow HS5.out hGq hy)
          have HJ := Lib.hid hjl
          have hB7 : Bk (wr.alloc (.cells #[.string y, .int .i64 d] 174)) wr.heap.size 174 #[.string y, .int .i64 d] := Bk.new wr 174 _
          have hG7 := hGq.alloc (.cells #[.string y, .int .i64 d] 174)
          have hB5 := HB5.out.quiet hG7
          rw [hL]
          clear hy hGq hL hlb htl
          go_upto_region 8 with (refine wpList_load_at rfl 174 _ rfl ⟨bb2, bo2 + j * 2, none⟩ rfl #[.string y, .int .i64 d] _ HW.out Tryd.underlying174 rfl (wsp_info (y, d)) ?_)
          clear HW
          generalize wr.alloc (.cells #[.string y, .int .i64 d] 174) = w7 at hB7 hG7 hB5 ⊢
          generalize wr.heap.size = gp at hB7 ⊢
          have d0 : w7.cell? ⟨g, 0, none⟩ = some (.string h) := hB5.cell 0
          have d1 : w7.cell? ⟨g, 1, none⟩ = some (.int .i64 f) := hB5.cell 1
          have d2 : w7.cell? ⟨g, 2, none⟩ = some (.int .i64 t) := hB5.cell 2
          have d3 : w7.cell? ⟨g, 3, none⟩ = some (.int .i64 c) := hB5.cell 3
          have p0 : w7.cell? ⟨gp, 0, none⟩ = some (.string y) := hB7.cell 0
          have p1 : w7.cell? ⟨gp, 1, none⟩ = some (.int .i64 d) := hB7.cell 1
          clear hB5 hB7
          have hq := beq_str9 h y
          rcases (show ¬ h = y ∨ (h = y ∧ ¬ (f ≤ d ∧ d < t)) ∨ (h = y ∧ f ≤ d ∧ d < t) by by_cases e1 : h = y <;> by_cases e2 : f ≤ d <;> by_cases e3 : d < t <;> simp [e1, e2, e3]) with e1 | ⟨e1, e2⟩ | ⟨e1, e2⟩
          · rw [decide_eq_false e1] at hq
            have HF : Hid (R + lpL (h, f, t, c) (l.take (j + 1)) = R + L) := Lib.hid (by rw [HPS.out, if_neg (fun q => e1 q.1)]; omega)
            clear e1
            go_wp2_with fail
            go_quiet ((first | (go_at_call 119; exact Calls.quiet_of_same (flag0_c _))))
            go_wp2_with fail
            go_roundw
            case rel => exact ⟨j + 1, (by have := HJ.out; omega), by go_num, (by rw [HF.out]), hG7.drewN _⟩
            case measure => have := HJ.out; simp [intOf]; omega
          · rw [decide_eq_true e1] at hq
            have HF : Hid (R + lpL (h, f, t, c) (l.take (j + 1)) = R + L) := Lib.hid (by rw [HPS.out, if_neg (fun q => e2 q.2)]; omega)
            have HIN := Lib.hid (fun w' => innS_c d f (t - 1) false (by unfold inB; rw [Bool.eq_false_iff]; simp; omega) w')
            clear e1 e2
            go_wp2_with fail
            go_quiet ((first | (go_at_call 119; exact Calls.quiet_of_same (flag0_c _)) | (go_at_call 114; exact Calls.quiet_of_same (HIN.out _))))
            go_wp2_with fail
            go_roundw
            case rel => exact ⟨j + 1, (by have := HJ.out; omega), by go_num, (by rw [HF.out]), hG7.drewN _⟩
            case measure => have := HJ.out; simp [intOf]; omega
          · rw [decide_eq_true e1] at hq
            have HF : Hid (R + lpL (h, f, t, c) (l.take (j + 1)) = R + L + c) := Lib.hid (by rw [HPS.out, if_pos ⟨e1, e2⟩]; omega)
            have HIN := Lib.hid (fun w' => innS_c d f (t - 1) true (by unfold inB; simp; omega) w')
            clear e1 e2
            go_wp2_with fail
            go_quiet ((first | (go_at_call 119; exact Calls.quiet_of_same (flag1_c _)) | (go_at_call 114; exact Calls.quiet_of_same (HIN.out _))))
            go_wp2_with fail
            go_roundw
            case rel => exact ⟨j + 1, (by have := HJ.out; omega), by go_num, (by rw [HF.out]), hG7.drewN _⟩
            case measure => have := HJ.out; simp [intOf]; omega
        · obtain rfl : j = l.length := by omega
          rw [List.take_length, ← HRS.out]
          have hG8 := HG5.out.trans hGq
          go_wp2_with fail
          go_roundw
          case rel => exact ⟨k + 1, (by have := HK.out; omega), by go_num, rfl, hG8⟩
          case measure => have := HK.out; simp [intOf]; omega
    · obtain rfl : k = b.length := by omega
      rw [List.take_length]
      go_wp2_with fail
      go_ret
      exact ⟨rfl, hGr⟩
end Go.Proofs.YtndeidcddlmhbaaDoor

/- shift.CheckPlaced. Written by genwsc.py. -/
namespace Go.Proofs.YtndeidcddlmhbaaDoor
open Go.RowKit

set_option maxRecDepth 100000 in
set_option maxHeartbeats 4000000 in
theorem same1_c (x : Wsw) (p : Wsp) (w : World) : Calls Tryd.prog 122 #[.agg (wswC x), .agg (wspC p)] w fun e w' => e = .returned (.bool (decide (x.1 = p.1))) ∧ G w w' none := by
  obtain ⟨h, f, t⟩ := x
  obtain ⟨y, d⟩ := p
  show Calls Tryd.prog 122 #[.agg #[.string h, .int .i64 f, .int .i64 t], .agg #[.string y, .int .i64 d]] w fun e w' => e = .returned (.bool (decide (h = y))) ∧ G w w' none
  have hA := (Bk.new w 168 #[.string h, .int .i64 f, .int .i64 t]).alloc (.cells #[.string y, .int .i64 d] 174)
  have hB := Bk.newAt (w := w.alloc (.cells #[.string h, .int .i64 f, .int .i64 t] 168)) (b := w.heap.size + 1) (by simp) 174 #[.string y, .int .i64 d]
  have hG := ((G.refl w none).alloc (.cells #[.string h, .int .i64 f, .int .i64 t] 168)).alloc (.cells #[.string y, .int .i64 d] 174)
  have hq : (h.toList == y.toList) = decide (h = y) := by
    by_cases e : h = y
    · subst e; simp
    · rw [decide_eq_false e]
      exact beq_eq_false_iff_ne.2 (fun e2 => e (eqB_iff.1 (by unfold eqB; rw [e2]; simp)))
  have HQ := Lib.hid hq
  clear hq
  go_enter Tryd.func122, Tryd.ntmps122
  go_upto_region 1 with fail
  generalize (w.alloc (.cells #[.string h, .int .i64 f, .int .i64 t] 168)).alloc (.cells #[.string y, .int .i64 d] 174) = w2 at hA hB hG ⊢
  have c0 : w2.cell? ⟨w.heap.size, 0, none⟩ = some (.string h) := hA.cell 0
  have c1 : w2.cell? ⟨w.heap.size + 1, 0, none⟩ = some (.string y) := hB.cell 0
  go_wp2_with fail
  go_ret
  exact ⟨by rw [← HQ.out]; rfl, hG⟩
set_option maxRecDepth 100000 in
set_option maxHeartbeats 4000000 in
theorem sameR_c (x : Wsw) (p : Wsp) (w : World) : Calls Tryd.prog 116 #[.agg (wswC x), .agg (wspC p)] w fun e w' => e = .returned (.bool (decide (x.1 = p.1))) ∧ G w w' none := by
  obtain ⟨h, f, t⟩ := x
  obtain ⟨y, d⟩ := p
  show Calls Tryd.prog 116 #[.agg #[.string h, .int .i64 f, .int .i64 t], .agg #[.string y, .int .i64 d]] w fun e w' => e = .returned (.bool (decide (h = y))) ∧ G w w' none
  have hA := (Bk.new w 168 #[.string h, .int .i64 f, .int .i64 t]).alloc (.cells #[.string y, .int .i64 d] 174)
  have hB := Bk.newAt (w := w.alloc (.cells #[.string h, .int .i64 f, .int .i64 t] 168)) (b := w.heap.size + 1) (by simp) 174 #[.string y, .int .i64 d]
  have hG := ((G.refl w none).alloc (.cells #[.string h, .int .i64 f, .int .i64 t] 168)).alloc (.cells #[.string y, .int .i64 d] 174)
  have hq : (h.toList == y.toList) = decide (h = y) := by
    by_cases e : h = y
    · subst e; simp
    · rw [decide_eq_false e]
      exact beq_eq_false_iff_ne.2 (fun e2 => e (eqB_iff.1 (by unfold eqB; rw [e2]; simp)))
  have HQ := Lib.hid hq
  clear hq
  go_enter Tryd.func116, Tryd.ntmps116
  go_upto_region 1 with fail
  generalize (w.alloc (.cells #[.string h, .int .i64 f, .int .i64 t] 168)).alloc (.cells #[.string y, .int .i64 d] 174) = w2 at hA hB hG ⊢
  have c0 : w2.cell? ⟨w.heap.size, 0, none⟩ = some (.string h) := hA.cell 0
  have c1 : w2.cell? ⟨w.heap.size + 1, 0, none⟩ = some (.string y) := hB.cell 0
  go_wp2_with fail
  go_ret
  exact ⟨by rw [← HQ.out]; rfl, hG⟩
def EfRel (w : World) (W : List Wsw) (l : List Wsp) (i : Value) (wr : World) : Prop := ∃ k : Nat, k ≤ W.length ∧ i = .int .i64 k ∧ (W.take k).map (·.1) = (l.take k).map (·.1) ∧ G w wr none
set_option maxRecDepth 100000 in
set_option maxHeartbeats 4000000 in
theorem equalF_c (F : FuncId) (hcf : ∀ (args : Array Value) (w : World), (callFunc F args).run Tryd.prog w = .ok (.enter F args) w) (hF : ∀ (x : Wsw) (p : Wsp) (w : World), Calls Tryd.prog F #[.agg (wswC x), .agg (wspC p)] w fun e w' => e = .returned (.bool (decide (x.1 = p.1))) ∧ G w w' none)
    (v u : Value) (W : List Wsw) (l : List Wsp) (w : World) (hr : RdR w 3 wswC v W) (hs : RdR w 2 wspC u l) (hn : W.length ≤ 1000) :
    Calls Tryd.prog 115 #[v, u, .func (.func F) #[] #[]] w fun e w' => e = .returned (.bool (decide (W.map (·.1) = l.map (·.1)))) ∧ G w w' none := by
  have HR := Lib.hid hr
  have HS := Lib.hid hs
  obtain ⟨a, cap, rfl, hcap, hm1⟩ := RdR.form hr
  obtain ⟨a2, cap2, rfl, hcap2, hm2⟩ := RdR.form hs
  clear hr hs
  have HF := Lib.hid hF
  clear hF
  by_cases hlen : W.length = l.length
  · have hlq : ((W.length : Int) != (l.length : Int)) = false := by rw [hlen]; simp
    have HL := Lib.hid hlen
    clear hlen
    go_enter Tryd.func115, Tryd.ntmps115
    go_wp2_with fail
    go_loopw [17] (EfRel w W l) (fun i _ => W.length - (intOf i).toNat)
    case atStart => exact ⟨0, by omega, rfl, rfl, G.refl _ _⟩
    case round =>
      obtain ⟨k, hk, rfl, heq, hG⟩ := hrel
      have HE := Lib.hid heq
      clear heq
      by_cases hlt : k < W.length
      · obtain ⟨⟨h, f, t⟩, hx⟩ : ∃ x, W[k]? = some x := ⟨_, List.getElem?_eq_getElem hlt⟩
        obtain ⟨⟨y, d⟩, hy⟩ : ∃ y, l[k]? = some y := ⟨_, List.getElem?_eq_getElem (by rw [← HL.out]; exact hlt)⟩
        have hlt2 : k < l.length := by have := HL.out; omega
        obtain ⟨bb, bo, rfl, hbb, _⟩ := RdR.elem wswC_sz HR.out hG hx
        obtain ⟨b2, o2, rfl, hb2, _⟩ := RdR.elem wspC_sz HS.out hG hy
        have HW := Lib.hid (wswRow HR.out hG hx)
        have hGa := hG.alloc (.cells #[.string h, .int .i64 f, .int .i64 t] 168)
        have HW2 := Lib.hid (wspRow HS.out hGa hy)
        have hA := (Bk.new wr 168 #[.string h, .int .i64 f, .int .i64 t]).alloc (.cells #[.string y, .int .i64 d] 174)
        have hB := Bk.newAt (w := wr.alloc (.cells #[.string h, .int .i64 f, .int .i64 t] 168)) (b := wr.heap.size + 1) (by simp) 174 #[.string y, .int .i64 d]
        have hG2 := hGa.alloc (.cells #[.string y, .int .i64 d] 174)
        have HX := Lib.hid hx
        have HY := Lib.hid hy
        have HK := Lib.hid hlt
        clear hx hy hG hGa
        go_upto_region 6 with (refine wpList_load_at rfl 168 _ rfl ⟨bb, bo + k * 3, none⟩ rfl #[.string h, .int .i64 f, .int .i64 t] _ HW.out Tryd.underlying168 rfl (wsw_info (h, f, t)) ?_)
        go_upto_region 7 with (refine wpList_load_at rfl 174 _ rfl ⟨b2, o2 + k * 2, none⟩ rfl #[.string y, .int .i64 d] _ HW2.out Tryd.underlying174 rfl (wsp_info (y, d)) ?_)
        clear HW HW2
        generalize (wr.alloc (.cells #[.string h, .int .i64 f, .int .i64 t] 168)).alloc (.cells #[.string y, .int .i64 d] 174) = w2 at hA hB hG2 ⊢
        go_wp2_with (first | (refine wpList_load_row rfl 168 _ rfl wr.heap.size rfl 168 #[.string h, .int .i64 f, .int .i64 t] (0, 0) _ hA Tryd.underlying168 rfl (wsw_info (h, f, t)) ?_) | (refine wpList_load_row rfl 174 _ rfl (wr.heap.size + 1) rfl 174 #[.string y, .int .i64 d] (0, 0) _ hB Tryd.underlying174 rfl (wsp_info (y, d)) ?_))
        refine (HF.out (h, f, t) (y, d) _).mono ?_; rintro e w3 ⟨rfl, hg⟩
        have hG3 := hG2.trans hg
        clear hA hB hG2 hg
        by_cases hxy : h = y
        · have HT : Hid ((W.take (k + 1)).map (·.1) = (l.take (k + 1)).map (·.1)) := Lib.hid (by
            rw [List.take_add_one, List.take_add_one, HX.out, HY.out, List.map_append, List.map_append, HE.out, hxy]; rfl)
          rw [decide_eq_true (show (h, f, t).1 = (y, d).1 from hxy)]
          clear hxy
          go_wp2_with fail
          go_roundw
          case rel => exact ⟨k + 1, (by have := HK.out; omega), by go_num, HT.out, hG3⟩
          case measure => have := HK.out; simp [intOf]; omega
        · have HT : Hid (decide (W.map (·.1) = l.map (·.1)) = false) := Lib.hid (decide_eq_false (fun e => hxy (by
            have h1 : (W.map (·.1))[k]? = (l.map (·.1))[k]? := by rw [e]
            rw [List.getElem?_map, List.getElem?_map, HX.out, HY.out] at h1
            exact Option.some.inj h1)))
          rw [decide_eq_false (show ¬ (h, f, t).1 = (y, d).1 from hxy)]
          clear hxy
          go_wp2_with fail
          go_ret
          exact ⟨ret_bool HT.out.symm, hG3⟩
      · obtain rfl : k = W.length := by omega
        have HT : Hid (decide (W.map (·.1) = l.map (·.1)) = true) := Lib.hid (decide_eq_true (by have h1 := HE.out; rw [List.take_length, HL.out, List.take_length] at h1; exact h1))
        go_wp2_with fail
        go_ret
        exact ⟨ret_bool HT.out.symm, hG⟩
  · have HT : Hid (decide (W.map (·.1) = l.map (·.1)) = false) := Lib.hid (decide_eq_false (fun e => hlen (by have := congrArg List.length e; simpa using this)))
    have hlq : ((W.length : Int) != (l.length : Int)) = true := by rw [bne_iff_ne]; omega
    clear hlen
    go_enter Tryd.func115, Tryd.ntmps115
    go_wp2_with fail
    go_ret
    exact ⟨ret_bool HT.out.symm, G.refl _ _⟩
set_option maxRecDepth 100000 in
set_option maxHeartbeats 4000000 in
theorem isWanted_c (h : ByteArray) (f t d : Int) (w : World) : Calls Tryd.prog 123 #[.agg #[.string h, .int .i64 f, .int .i64 t], .int .i64 d] w fun e w' => e = .returned (.bool (decide (f ≤ d ∧ d < t))) ∧ G w w' none := by
  have hA := Bk.new w 168 #[.string h, .int .i64 f, .int .i64 t]
  have hG := (G.refl w none).alloc (.cells #[.string h, .int .i64 f, .int .i64 t] 168)
  by_cases h1 : f ≤ d
  · have HF : Hid (decide (f ≤ d ∧ d < t) = decide (d < t)) := Lib.hid (by simp [h1])
    go_enter Tryd.func123, Tryd.ntmps123
    go_upto_region 1 with fail
    generalize w.alloc (.cells #[.string h, .int .i64 f, .int .i64 t] 168) = w2 at hA hG ⊢
    have c1 : w2.cell? ⟨w.heap.size, 1, none⟩ = some (.int .i64 f) := hA.cell 1
    have c2 : w2.cell? ⟨w.heap.size, 2, none⟩ = some (.int .i64 t) := hA.cell 2
    go_wp2_with fail
    go_ret
    exact ⟨by rw [HF.out]; rfl, hG⟩
  · have HF : Hid ((decide (f ≤ d) && decide (d < t)) = false) := Lib.hid (by simp [h1])
    go_enter Tryd.func123, Tryd.ntmps123
    go_upto_region 1 with fail
    generalize w.alloc (.cells #[.string h, .int .i64 f, .int .i64 t] 168) = w2 at hA hG ⊢
    have c1 : w2.cell? ⟨w.heap.size, 1, none⟩ = some (.int .i64 f) := hA.cell 1
    have c2 : w2.cell? ⟨w.heap.size, 2, none⟩ = some (.int .i64 t) := hA.cell 2
    go_wp2_with fail
    go_ret
    exact ⟨by rw [HF.out]; rfl, hG⟩
def wplE (sl : List Wsl) (W : List Wsw) (l : List Wsp) : Int := if wslE sl = 0 then (if wswE W = 0 then (if wspE l = 0 then plX sl W l else wspE l) else wswE W) else wslE sl
theorem zi_run9 (w : World) : (zeroValue 3).run Tryd.prog w = .ok (.int .i64 0) w := by kernel_rfl
def CpmRel (w : World) (sl : List Wsl) (g : Nat) (i : Value) (wr : World) : Prop :=
  ∃ k c : Nat, k ≤ sl.length ∧ c ≤ k ∧ i = .int .i64 k ∧ OwnK KI wr g c (rmV (sl.take k) []) ∧ G w wr none
def CplRel (w : World) (sl : List Wsl) (W : List Wsw) (l : List Wsp) (g : Nat) (i : Value) (wr : World) : Prop :=
  ∃ k c : Nat, k ≤ l.length ∧ c ≤ 12 + k ∧ i = .int .i64 k ∧ plR sl W l = plR sl (W.drop k) (l.drop k) ∧ OwnK KI wr g c (rmV sl (l.take k)) ∧ G w wr none
def CpgRel (w : World) (sl : List Wsl) (l : List Wsp) (g : Nat) (i : Value) (wr : World) : Prop :=
  ∃ k c : Nat, k ≤ l.length ∧ i = .int .i64 k ∧ plG sl l l = plG sl l (l.drop k) ∧ OwnK KI wr g c (rmV sl l) ∧ G w wr none
theorem take_sw {α : Type} {l : List α} {k : Nat} {x : α} (h : l[k]? = some x) : l.take (k + 1) = l.take k ++ [x] := by rw [List.take_add_one, h]; rfl
theorem drop_sw {α : Type} {l : List α} {k : Nat} {x : α} (h : l[k]? = some x) : l.drop k = x :: l.drop (k + 1) := by
  obtain ⟨hk, e⟩ := List.getElem?_eq_some_iff.1 h
  rw [List.drop_eq_getElem_cons hk, e]
set_option maxRecDepth 100000 in
set_option maxHeartbeats 8000000 in
theorem checkPlaced_c (vs vw vp : Value) (sl : List Wsl) (W : List Wsw) (l : List Wsp) (w : World) (hs : RdR w 2 wslC vs sl) (hw : RdR w 3 wswC vw W) (hp : RdR w 2 wspC vp l) (hok : WswOk W) (hol : WspOk l) (ns : sl.length ≤ 1000) (nw : W.length ≤ 1000) (nl : l.length ≤ 1000) :
    Calls Tryd.prog 68 #[vs, vw, vp] w fun e w' => e = .returned (.int .i64 (wplE sl W l)) ∧ G w w' none := by
  obtain ⟨a1, cap1, rfl, hcap1, hm1⟩ := RdR.form hs
  obtain ⟨a2, cap2, rfl, hcap2, hm2⟩ := RdR.form hw
  obtain ⟨a3, cap3, rfl, hcap3, hm3⟩ := RdR.form hp
  have hmm : ∀ (n : Nat) (w : World), (Instr.makeMap 182 (some (.int .i64 (n : Int)))).run Tryd.prog w = .ok (.map (some w.heap.size)) (w.alloc (.map #[] 0)) := fun _ _ => rfl
  obtain ⟨E, hE⟩ : ∃ E, wplE sl W l = E := ⟨_, rfl⟩
  have HE := Lib.hid hE
  rw [hE]
  clear hE
  go_enter Tryd.func68, Tryd.ntmps68
  go_wp2_with fail
  refine (checkSlots_c _ sl _ hs (by omega)).mono ?_; rintro e w1 ⟨rfl, hG1⟩
  replace hs := hs.quiet hG1
  replace hw := hw.quiet hG1
  replace hp := hp.quiet hG1
  by_cases e1 : wslE sl = 0
  rotate_left
  · obtain rfl : E = wslE sl := by rw [← HE.out, wplE, if_neg e1]
    have hb : (wslE sl != 0) = true := bne_iff_ne.2 e1
    clear HE e1
    go_wp2_with fail
    go_ret
    exact ⟨rfl, hG1⟩
  have HE1 : Hid (E = if wswE W = 0 then (if wspE l = 0 then plX sl W l else wspE l) else wswE W) := Lib.hid (by rw [← HE.out, wplE, if_pos e1])
  have HS0 := Lib.hid e1
  rw [e1]
  clear e1 HE
  go_wp2_with fail
  refine (checkWanted_c _ W _ hw hok (by omega)).mono ?_; rintro e w2 ⟨rfl, hG2⟩
  replace hs := hs.quiet hG2
  replace hw := hw.quiet hG2
  replace hp := hp.quiet hG2
  have hG := hG1.trans hG2
  clear hG1 hG2
  by_cases e1 : wswE W = 0
  rotate_left
  · obtain rfl : E = wswE W := by rw [HE1.out, if_neg e1]
    have hb : (wswE W != 0) = true := bne_iff_ne.2 e1
    clear HE1 e1
    go_wp2_with fail
    go_ret
    exact ⟨rfl, hG⟩
  have HE2 : Hid (E = if wspE l = 0 then plX sl W l else wspE l) := Lib.hid (by rw [HE1.out, if_pos e1])
  have HW0 := Lib.hid e1
  rw [e1]
  clear e1 HE1
  go_wp2_with fail
  refine (checkRight_c _ l _ hp hol (by omega)).mono ?_; rintro e w3 ⟨rfl, hg⟩
  replace hs := hs.quiet hg
  replace hw := hw.quiet hg
  replace hp := hp.quiet hg
  replace hG := hG.trans hg
  clear hg
  by_cases e1 : wspE l = 0
  rotate_left
  · obtain rfl : E = wspE l := by rw [HE2.out, if_neg e1]
    have hb : (wspE l != 0) = true := bne_iff_ne.2 e1
    clear HE2 e1
    go_wp2_with fail
    go_ret
    exact ⟨rfl, hG⟩
  have HE3 : Hid (E = if W.map (·.1) ≠ l.map (·.1) then 3 else if plR sl W l = 0 then plF l sl else plR sl W l) := Lib.hid (by rw [HE2.out, if_pos e1]; rfl)
  have HP0 := Lib.hid e1
  rw [e1]
  clear e1 HE2
  go_wp2_with fail
  refine (equalF_c 122 (fun _ _ => rfl) same1_c _ _ W l _ hw hp (by omega)).mono ?_; rintro e w4 ⟨rfl, hg⟩
  replace hs := hs.quiet hg
  replace hw := hw.quiet hg
  replace hp := hp.quiet hg
  replace hG := hG.trans hg
  clear hg
  by_cases e1 : W.map (·.1) = l.map (·.1)
  rotate_left
  · obtain rfl : E = 3 := by rw [HE3.out, if_pos e1]
    rw [decide_eq_false e1]
    clear HE3 e1
    go_wp2_with fail
    go_ret
    exact ⟨rfl, hG⟩
  have HE4 : Hid (E = if plR sl W l = 0 then plG sl l l else plR sl W l) := Lib.hid (by
    rw [HE3.out, if_neg (fun q => q e1)]
    by_cases h0 : plR sl W l = 0
    · rw [if_pos h0, if_pos h0, plG_F HS0.out (by have := congrArg List.length e1; simpa using this) h0]
    · rw [if_neg h0, if_neg h0])
  have HLN : Hid (W.length = l.length) := Lib.hid (by have := congrArg List.length e1; simpa using this)
  rw [decide_eq_true e1]
  clear e1 HE3
  have HSL := Lib.hid (wslE_in HS0.out)
  have HPL := Lib.hid (wspE_in HP0.out)
  have HWL := Lib.hid (wswE_in HW0.out)
  have HRS := Lib.hid hs
  have HRW := Lib.hid hw
  have HRP := Lib.hid hp
  clear hs hw hp HS0 HW0 HP0
  go_wp2_with fail
  go_loopw [45] (CpmRel w4 sl w4.heap.size) (fun i _ => sl.length - (intOf i).toNat)
  case atStart => exact ⟨0, 0, by omega, by omega, rfl, OwnK.made _ _ rfl, (G.refl _ _).alloc _⟩
  case round =>
    obtain ⟨k, c, hk, hc, rfl, hM, hGr⟩ := hrel
    by_cases hlt : k < sl.length
    · obtain ⟨⟨d, m⟩, hp⟩ : ∃ p, sl[k]? = some p := ⟨_, List.getElem?_eq_getElem hlt⟩
      have hbd := HSL.out.1 _ (List.mem_of_getElem? hp)
      have HDB := Lib.hid hbd.1
      obtain ⟨bb, bo, rfl, -, -⟩ := RdR.elem wslC_sz HRS.out hGr hp
      have HW := Lib.hid (wslRow HRS.out hGr hp)
      have HT : Hid (fputK (rmV (sl.take k) []) d (.int .i64 m) = rmV (sl.take (k + 1)) []) := Lib.hid (by rw [take_sw hp, rmV_slot])
      have hclt : c < maxLen := by unfold maxLen; omega
      have hcp : cputK c (rmV (sl.take k) []) d ≤ k + 1 := by unfold cputK; split <;> omega
      have HCP := Lib.hid hcp
      have HK := Lib.hid hlt
      have hB5 : Bk (wr.alloc (.cells #[.int .i64 d, .int .i64 m] 166)) wr.heap.size 166 #[.int .i64 d, .int .i64 m] := Bk.new wr 166 _
      have hG5 := hGr.alloc (.cells #[.int .i64 d, .int .i64 m] 166)
      have hM5 := hM.alloc (.cells #[.int .i64 d, .int .i64 m] 166)
      have hne : w4.heap.size ≠ wr.heap.size := by have := hM.lt; omega
      clear hp hbd hcp hM hGr hc
      go_upto_region 17 with (refine wpList_load_at rfl 166 _ rfl ⟨bb, bo + k * 2, none⟩ rfl #[.int .i64 d, .int .i64 m] _ HW.out Tryd.underlying166 rfl (wsl_info (d, m)) ?_)
      clear HW
      generalize wr.alloc (.cells #[.int .i64 d, .int .i64 m] 166) = w5 at hB5 hG5 hM5 ⊢
      generalize wr.heap.size = g at hB5 hne ⊢
      have c0 : w5.cell? ⟨g, 0, none⟩ = some (.int .i64 d) := hB5.cell 0
      have c1 : w5.cell? ⟨g, 1, none⟩ = some (.int .i64 m) := hB5.cell 1
      clear hB5
      go_wp2_with (at_mapUpdate; refine wpK_store (KK := KI) rfl _ _ _ 182 rfl 3 Tryd.underlying182 w4.heap.size c _ rfl hM5 hclt d rfl HDB.out (.int .i64 m) rfl ?_; intro w6 hM6 hG6)
      rw [HT.out] at hM6
      go_roundw
      case rel => exact ⟨k + 1, _, (by have := HK.out; omega), HCP.out, by go_num, hM6, hG5.other hG6 (fun j e => .inl (by obtain rfl := Option.some.inj e; exact Nat.le_refl _))⟩
      case measure => have := HK.out; simp [intOf]; omega
    · obtain rfl : k = sl.length := by omega
      rw [List.take_length] at hM
      have HC12 : Hid (c ≤ 12) := Lib.hid (by have := HSL.out.2; omega)
      have hgl : w4.heap.size ≤ w4.heap.size := Nat.le_refl _
      have HGS := Lib.hid hGr
      clear HRS hGr hc
      generalize hgg : w4.heap.size = g at hM ⊢
      rw [hgg] at hgl
      have HGL : Hid (w4.heap.size ≤ g) := Lib.hid (by omega)
      clear hgg hgl
      go_wp2_with fail
      go_loopw [57] (CplRel w4 sl W l g) (fun i _ => l.length - (intOf i).toNat)
      case atStart => exact ⟨0, c, by omega, (by have := HC12.out; omega), rfl, rfl, hM, HGS.out⟩
      case round =>
        clear hM
        obtain ⟨k, c, hk, hc, rfl, heq, hM, hGr⟩ := hrel
        have HEQ := Lib.hid heq
        clear heq
        by_cases hlt : k < l.length
        · obtain ⟨⟨y, d⟩, hp⟩ : ∃ p, l[k]? = some p := ⟨_, List.getElem?_eq_getElem hlt⟩
          have hltw : k < W.length := by rw [HLN.out]; exact hlt
          obtain ⟨⟨h, f, t⟩, hx⟩ : ∃ p, W[k]? = some p := ⟨_, List.getElem?_eq_getElem hltw⟩
          have HDB := Lib.hid (HPL.out.1 _ (List.mem_of_getElem? hp))
          have HST : Hid (plR sl W l = if ¬ (f ≤ d ∧ d < t) then 16 else if rmF sl d = none then 8 else plR sl (W.drop (k + 1)) (l.drop (k + 1))) := Lib.hid (by rw [HEQ.out, drop_sw hp, drop_sw hx]; rfl)
          have HTK := Lib.hid (take_sw hp)
          obtain ⟨bb, bo, rfl, -, -⟩ := RdR.elem wspC_sz HRP.out hGr hp
          obtain ⟨b2, o2, rfl, -, -⟩ := RdR.elem wswC_sz HRW.out hGr hx
          have HW := Lib.hid (wspRow HRP.out hGr hp)
          have HK := Lib.hid hlt
          have hB5 : Bk (wr.alloc (.cells #[.string y, .int .i64 d] 174)) wr.heap.size 174 #[.string y, .int .i64 d] := Bk.new wr 174 _
          have hG5 := hGr.alloc (.cells #[.string y, .int .i64 d] 174)
          have hM5 := hM.alloc (.cells #[.string y, .int .i64 d] 174)
          have d0 := RdR.cell wswC_sz HRW.out hG5 hx 0 (.string h) rfl
          have d1 := RdR.cell wswC_sz HRW.out hG5 hx 1 (.int .i64 f) rfl
          have d2 := RdR.cell wswC_sz HRW.out hG5 hx 2 (.int .i64 t) rfl
          have HDD : Hid (∀ w', G w4 w' none → w'.cell? ⟨b2, o2 + k * 3, none⟩ = some (.string h) ∧ w'.cell? ⟨b2, o2 + k * 3 + 1, none⟩ = some (.int .i64 f) ∧ w'.cell? ⟨b2, o2 + k * 3 + 2, none⟩ = some (.int .i64 t)) := Lib.hid (fun w' q => ⟨RdR.cell wswC_sz HRW.out q hx 0 (.string h) rfl, RdR.cell wswC_sz HRW.out q hx 1 (.int .i64 f) rfl, RdR.cell wswC_sz HRW.out q hx 2 (.int .i64 t) rfl⟩)
          simp only [Nat.add_zero] at d0
          have hne : g ≠ wr.heap.size := by have := hM.lt; omega
          clear hp hx hM hGr
          go_upto_region 22 with (refine wpList_load_at rfl 174 _ rfl ⟨bb, bo + k * 2, none⟩ rfl #[.string y, .int .i64 d] _ HW.out Tryd.underlying174 rfl (wsp_info (y, d)) ?_)
          clear HW
          generalize wr.alloc (.cells #[.string y, .int .i64 d] 174) = w5 at hB5 hG5 hM5 d0 d1 d2 ⊢
          generalize wr.heap.size = gp at hB5 hne ⊢
          have c1 : w5.cell? ⟨gp, 1, none⟩ = some (.int .i64 d) := hB5.cell 1
          obtain ⟨B, hB⟩ : ∃ B, decide (f ≤ d ∧ d < t) = B := ⟨_, rfl⟩
          have HIW := Lib.hid (fun w' => isWanted_c h f t d w')
          rw [hB] at HIW
          have HBD := Lib.hid hB
          clear hB
          go_region_held3 (fun w' => w'.cell? ⟨b2, o2 + k * 3, none⟩ = some (.string h) ∧ w'.cell? ⟨b2, o2 + k * 3 + 1, none⟩ = some (.int .i64 f) ∧ w'.cell? ⟨b2, o2 + k * 3 + 2, none⟩ = some (.int .i64 t) ∧ w'.cell? ⟨gp, 1, none⟩ = some (.int .i64 d)) (first | exact ⟨d0, d1, d2, c1⟩ | exact hS6 | go_keep) (first | (go_at_call 123; refine (HIW.out _).mono ?_; rintro e w6 ⟨rfl, hg⟩; have hq := ((G.refl w5 none).drew).trans hg; have hG6 := hG5.trans hq; have hM6 := hM5.quiet hq; have hB6 := hB5.quiet hq; have hS6 : w6.cell? ⟨b2, o2 + k * 3, none⟩ = some (.string h) ∧ w6.cell? ⟨b2, o2 + k * 3 + 1, none⟩ = some (.int .i64 f) ∧ w6.cell? ⟨b2, o2 + k * 3 + 2, none⟩ = some (.int .i64 t) ∧ w6.cell? ⟨gp, 1, none⟩ = some (.int .i64 d) := ⟨(HDD.out _ hG6).1, (HDD.out _ hG6).2.1, (HDD.out _ hG6).2.2, hB6.cell 1⟩))
          clear d0 d1 d2 c1 hB5 hG5 hM5 hg hq hS6 HDD
          by_cases hin : f ≤ d ∧ d < t
          rotate_left
          · have hx : plR sl W l = 16 := by rw [HST.out, if_pos hin]
            obtain rfl : E = 16 := by rw [HE4.out, if_neg (by rw [hx]; decide), hx]
            obtain rfl : B = false := by rw [← HBD.out]; exact decide_eq_false hin
            clear hin hx
            go_wp2_with fail
            go_ret
            exact ⟨rfl, hG.trans hG6⟩
          have HST2 : Hid (plR sl W l = if rmF sl d = none then 8 else plR sl (W.drop (k + 1)) (l.drop (k + 1))) := Lib.hid (by rw [HST.out, if_neg (fun q => q hin)])
          obtain rfl : B = true := by rw [← HBD.out]; exact decide_eq_true hin
          clear hin HST
          have c1 : w6.cell? ⟨gp, 1, none⟩ = some (.int .i64 d) := hB6.cell 1
          cases hrm : rmF sl d with
          | none =>
            have hx : plR sl W l = 8 := by rw [HST2.out, if_pos hrm]
            obtain rfl : E = 8 := by rw [HE4.out, if_neg (by rw [hx]; decide), hx]
            have hfs : rmV sl (l.take k) d = none := by unfold rmV; rw [hrm]; rfl
            clear hrm hx
            go_wp2_with (at_lookup; refine wpK_look_ok (KK := KI) rfl _ _ 182 rfl 3 Tryd.underlying182 (.int .i64 0) (zi_run9 _) g c (rmV sl (l.take k)) rfl hM6 d rfl HDB.out ?_; rw [hfs])
            go_ret
            exact ⟨rfl, hG.trans hG6⟩
          | some u =>
            have hub := (HSL.out.1 _ (rmF_mem hrm)).2
            have hcb := cnt_bnd d (l.take k)
            have htl : (l.take k).length ≤ k := List.length_take_le _ _
            have hl6 := HPL.out.2
            obtain ⟨n, hn⟩ : ∃ n, u - cnt d (l.take k) = n := ⟨_, rfl⟩
            have hnb : -6 ≤ n ∧ n ≤ 20 := by dsimp only at hub; omega
            obtain ⟨hn0, hn1⟩ := hnb
            have hfs : rmV sl (l.take k) d = some (.int .i64 n) := by unfold rmV; rw [hrm, ← hn]; rfl
            have HT : Hid (fputK (rmV sl (l.take k)) d (.int .i64 (n - 1)) = rmV sl (l.take (k + 1))) := Lib.hid (by rw [HTK.out, rmV_place sl (l.take k) (y, d) hrm, ← hn])
            have HN2 : Hid (plR sl W l = plR sl (W.drop (k + 1)) (l.drop (k + 1))) := Lib.hid (by rw [HST2.out, if_neg (by rw [hrm]; simp)])
            have hclt : c < maxLen := by unfold maxLen; omega
            have hcp : cputK c (rmV sl (l.take k)) d ≤ 12 + (k + 1) := by unfold cputK; split <;> omega
            have HCP := Lib.hid hcp
            have HFS := Lib.hid hfs
            clear hrm hub hcb htl hl6 hn hcp hc HST2
            go_wp2_with (first | (at_lookup; refine wpK_look_ok (KK := KI) rfl _ _ 182 rfl 3 Tryd.underlying182 (.int .i64 0) (zi_run9 _) g c (rmV sl (l.take k)) rfl hM6 d rfl HDB.out ?_; rw [HFS.out]) | (at_lookup; refine wpK_look (KK := KI) rfl _ _ 182 rfl 3 Tryd.underlying182 (.int .i64 0) (zi_run9 _) g c (rmV sl (l.take k)) rfl hM6 d rfl HDB.out ?_; rw [HFS.out]) | (at_mapUpdate; refine wpK_store (KK := KI) rfl _ _ _ 182 rfl 3 Tryd.underlying182 g c _ rfl hM6 hclt d rfl HDB.out (.int .i64 (n - 1)) rfl ?_; intro w7 hM7 hG7))
            rw [HT.out] at hM7
            go_roundw
            case rel => exact ⟨k + 1, _, (by have := HK.out; omega), HCP.out, by go_num, HN2.out, hM7, hG6.other hG7 (fun j e => .inl (by obtain rfl := Option.some.inj e; exact HGL.out))⟩
            case measure => have := HK.out; simp [intOf]; omega
        · obtain rfl : k = l.length := by omega
          have hx : plR sl W l = 0 := by rw [HEQ.out, ← HLN.out, List.drop_length]; rfl
          have HE5 : Hid (E = plG sl l l) := Lib.hid (by rw [HE4.out, if_pos hx])
          have HAL := Lib.hid (plR_all HLN.out hx)
          rw [List.take_length] at hM
          have HGT := Lib.hid hGr
          clear hx hc HE4 HEQ HRW hGr
          go_wp2_with fail
          go_loopw [87] (CpgRel w4 sl l g) (fun i _ => l.length - (intOf i).toNat)
          case atStart => exact ⟨0, c, by omega, rfl, rfl, hM, HGT.out⟩
          case round =>
            clear hM
            obtain ⟨k, c, hk, rfl, heq, hM, hGr⟩ := hrel
            have HEQ := Lib.hid heq
            clear heq
            by_cases hlt : k < l.length
            · obtain ⟨⟨y, d⟩, hp⟩ : ∃ p, l[k]? = some p := ⟨_, List.getElem?_eq_getElem hlt⟩
              have HDB := Lib.hid (HPL.out.1 _ (List.mem_of_getElem? hp))
              have hsome := HAL.out _ (List.mem_of_getElem? hp)
              have HST : Hid (plG sl l l = if (rmF sl d).getD 0 - cnt d l < 0 then 12 else plG sl l (l.drop (k + 1))) := Lib.hid (by rw [HEQ.out, drop_sw hp]; rfl)
              obtain ⟨bb, bo, rfl, -, -⟩ := RdR.elem wspC_sz HRP.out hGr hp
              have HW := Lib.hid (wspRow HRP.out hGr hp)
              have HK := Lib.hid hlt
              have hB5 : Bk (wr.alloc (.cells #[.string y, .int .i64 d] 174)) wr.heap.size 174 #[.string y, .int .i64 d] := Bk.new wr 174 _
              have hG5 := hGr.alloc (.cells #[.string y, .int .i64 d] 174)
              have hM5 := hM.alloc (.cells #[.string y, .int .i64 d] 174)
              obtain ⟨u, hrm⟩ : ∃ u, rmF sl d = some u := by
                cases q : rmF sl d with
                | none => exact absurd q hsome
                | some u => exact ⟨u, rfl⟩
              obtain ⟨n, hn⟩ : ∃ n, u - cnt d l = n := ⟨_, rfl⟩
              have hfs : rmV sl l d = some (.int .i64 n) := by unfold rmV; rw [hrm, ← hn]; rfl
              have HFS := Lib.hid hfs
              have HST2 : Hid (plG sl l l = if n < 0 then 12 else plG sl l (l.drop (k + 1))) := Lib.hid (by rw [HST.out, hrm, Option.getD_some, hn])
              clear hp hsome hM hGr hrm hn hfs HST
              go_upto_region 32 with (refine wpList_load_at rfl 174 _ rfl ⟨bb, bo + k * 2, none⟩ rfl #[.string y, .int .i64 d] _ HW.out Tryd.underlying174 rfl (wsp_info (y, d)) ?_)
              clear HW
              generalize wr.alloc (.cells #[.string y, .int .i64 d] 174) = w5 at hB5 hG5 hM5 ⊢
              generalize wr.heap.size = gp at hB5 ⊢
              have c1 : w5.cell? ⟨gp, 1, none⟩ = some (.int .i64 d) := hB5.cell 1
              by_cases h0 : n < 0
              · obtain rfl : E = 12 := by rw [HE5.out, HST2.out, if_pos h0]
                go_wp2_with (at_lookup; refine wpK_look (KK := KI) rfl _ _ 182 rfl 3 Tryd.underlying182 (.int .i64 0) (zi_run9 _) g c (rmV sl l) rfl hM5 d rfl HDB.out ?_; rw [HFS.out])
                go_ret
                exact ⟨rfl, hG.trans hG5⟩
              · have HN2 : Hid (plG sl l l = plG sl l (l.drop (k + 1))) := Lib.hid (by rw [HST2.out, if_neg h0])
                go_wp2_with (at_lookup; refine wpK_look (KK := KI) rfl _ _ 182 rfl 3 Tryd.underlying182 (.int .i64 0) (zi_run9 _) g c (rmV sl l) rfl hM5 d rfl HDB.out ?_; rw [HFS.out])
                go_roundw
                case rel => exact ⟨k + 1, c, (by have := HK.out; omega), by go_num, HN2.out, hM5, hG5⟩
                case measure => have := HK.out; simp [intOf]; omega
            · obtain rfl : k = l.length := by omega
              obtain rfl : E = 0 := by rw [HE5.out, HEQ.out, List.drop_length]; rfl
              go_wp2_with fail
              go_ret
              exact ⟨rfl, hG.trans hGr⟩
end Go.Proofs.YtndeidcddlmhbaaDoor

/- The reference's PlacedFault. Written by genwse.py. -/
namespace Go.Proofs.YtndeidcddlmhbaaDoor
open Go.RowKit

def slB (d : Int) (s : Wsl) : Bool := decide (s.1 = d)
theorem slB_none {sl : List Wsl} {d : Int} : rmF sl d = none ↔ sl.any (slB d) = false := by
  rw [rmF_none, List.any_eq_false]
  simp [slB]
def slAt (d : Int) (l : List Wsl) : Int := ixP (slB d) l 0
def SxRel (w : World) (l : List Wsl) (d : Int) (i : Value) (wr : World) : Prop :=
  ∃ k : Nat, k ≤ l.length ∧ i = .int .i64 k ∧ slAt d l = ixP (slB d) (l.drop k) k ∧ G w wr none
set_option maxRecDepth 100000 in
set_option maxHeartbeats 4000000 in
theorem dayIs_c (x : Wsl) (y : ByteArray) (d : Int) (g1 : Nat) (w : World) (hB : Bk w g1 174 #[.string y, .int .i64 d]) :
    Calls Tryd.prog 118 #[.agg (wslC x), .pointer (some ⟨g1, 0, none⟩)] w fun e w' => e = .returned (.bool (slB d x)) ∧ G w w' none := by
  obtain ⟨a, m⟩ := x
  show Calls Tryd.prog 118 #[.agg #[.int .i64 a, .int .i64 m], .pointer (some ⟨g1, 0, none⟩)] w _
  have hA := Bk.new w 166 #[.int .i64 a, .int .i64 m]
  have hB2 := hB.alloc (.cells #[.int .i64 a, .int .i64 m] 166)
  have hG := (G.refl w none).alloc (.cells #[.int .i64 a, .int .i64 m] 166)
  have HS : Hid (slB d (a, m) = (a == d)) := Lib.hid (by by_cases e : a = d <;> simp [slB, e])
  clear hB
  go_enter Tryd.func118, Tryd.ntmps118
  go_upto_region 1 with fail
  generalize w.alloc (.cells #[.int .i64 a, .int .i64 m] 166) = w2 at hA hB2 hG ⊢
  have c0 : w2.cell? ⟨w.heap.size, 0, none⟩ = some (.int .i64 a) := hA.cell 0
  have c1 : w2.cell? ⟨g1, 1, none⟩ = some (.int .i64 d) := hB2.cell 1
  go_wp2_with fail
  go_ret
  exact ⟨by rw [HS.out]; rfl, hG⟩
set_option maxRecDepth 100000 in
set_option maxHeartbeats 4000000 in
theorem slotIx_c (u : Value) (l : List Wsl) (y : ByteArray) (d : Int) (g1 : Nat) (w : World) (hr : RdR w 2 wslC u l) (hn : l.length ≤ 1000) (hB : Bk w g1 174 #[.string y, .int .i64 d]) :
    Calls Tryd.prog 156 #[u, .func (.func 118) #[] #[.pointer (some ⟨g1, 0, none⟩)]] w fun e w' => e = .returned (.int .i64 (slAt d l)) ∧ G w w' none := by
  have HR := Lib.hid hr
  obtain ⟨a, cap, rfl, hcap, hm⟩ := RdR.form hr
  clear hr
  go_enter Tryd.func156, Tryd.ntmps156
  go_wp2_with fail
  go_loopw [8] (SxRel w l d) (fun i _ => l.length - (intOf i).toNat)
  case atStart => exact ⟨0, by omega, rfl, rfl, G.refl _ _⟩
  case round =>
    obtain ⟨k, hk, rfl, heq, hG⟩ := hrel
    have HE := Lib.hid heq
    clear heq
    by_cases hlt : k < l.length
    · obtain ⟨p, hp⟩ : ∃ p, l[k]? = some p := ⟨_, List.getElem?_eq_getElem hlt⟩
      have HD : Hid (slAt d l = if slB d p = true then (k : Int) else ixP (slB d) (l.drop (k + 1)) ((k : Int) + 1)) := Lib.hid (by
        rw [HE.out, List.drop_eq_getElem_cons hlt, (List.getElem?_eq_some_iff.1 hp).2]; rfl)
      obtain ⟨bb, bo, rfl, -, -⟩ := RdR.elem wslC_sz HR.out hG hp
      have HW := Lib.hid (wslRow HR.out hG hp)
      have HK := Lib.hid hlt
      clear hp
      go_wp2_with (refine wpList_load_at rfl 166 _ rfl ⟨bb, bo + k * 2, none⟩ rfl (wslC p) _ HW.out Tryd.underlying166 rfl (wsl_info p) ?_)
      refine (dayIs_c p y d g1 _ (hB.quiet hG)).mono ?_; rintro e w1 ⟨rfl, hG1⟩
      cases he : slB d p with
      | true =>
        have HF : Hid (slAt d l = k) := Lib.hid (by rw [HD.out, if_pos he])
        clear he
        go_wp2_with fail
        go_ret
        exact ⟨ret_int HF.out.symm, hG.trans hG1⟩
      | false =>
        have HF : Hid (slAt d l = ixP (slB d) (l.drop (k + 1)) ((k + 1 : Nat) : Int)) := Lib.hid (by rw [HD.out, if_neg (by simp [he])]; rfl)
        clear he
        go_wp2_with fail
        go_roundw
        case rel => exact ⟨k + 1, by omega, by go_num, HF.out, hG.trans hG1⟩
        case measure => have := HK.out; simp [intOf]; omega
    · obtain rfl : k = l.length := by omega
      have HF : Hid (slAt d l = -1) := Lib.hid (by rw [HE.out, List.drop_length]; rfl)
      go_wp2_with fail
      go_ret
      exact ⟨ret_int HF.out.symm, hG⟩
set_option maxRecDepth 100000 in
set_option maxHeartbeats 4000000 in
theorem slotHas_c (u : Value) (l : List Wsl) (y : ByteArray) (d : Int) (g1 : Nat) (w : World) (hr : RdR w 2 wslC u l) (hn : l.length ≤ 1000) (hB : Bk w g1 174 #[.string y, .int .i64 d]) :
    Calls Tryd.prog 117 #[u, .func (.func 118) #[] #[.pointer (some ⟨g1, 0, none⟩)]] w fun e w' => e = .returned (.bool (l.any (slB d))) ∧ G w w' none := by
  have hs := ixP_spec (slB d) l 0
  obtain ⟨a, cap, rfl, hcap, hm⟩ := RdR.form hr
  have HI := Lib.hid (fun w' (q : G w w' none) => slotIx_c _ l y d g1 w' (hr.quiet q) hn (hB.quiet q))
  clear hr hB
  have hI : slAt d l = ixP (slB d) l ((0 : Nat) : Int) := rfl
  go_enter Tryd.func117, Tryd.ntmps117
  go_wp2_with fail
  refine (HI.out _ (G.refl _ _)).mono ?_; rintro e w1 ⟨rfl, hG1⟩
  rw [hI]
  clear hI HI
  rcases hs with ⟨h1, h2⟩ | ⟨i, p, h1, h2, h3⟩
  · rw [h1]
    have HF := Lib.hid h2
    clear h1 h2
    go_wp2_with fail
    go_ret
    exact ⟨ret_bool HF.out.symm, hG1⟩
  · have HF := Lib.hid (any_of_at (slB d) l i p h2 h3)
    rw [h1]
    clear h1 h2 h3
    have h0 : (0 : Int) ≤ ((0 + i : Nat) : Int) := by omega
    go_wp2_with fail
    go_ret
    exact ⟨ret_bool HF.out.symm, hG1⟩
def WpfRel (w : World) (sl : List Wsl) (W : List Wsw) (l : List Wsp) (i : Value) (wr : World) : Prop := ∃ k : Nat, k ≤ l.length ∧ i = .int .i64 k ∧ plR sl W l = plR sl (W.drop k) (l.drop k) ∧ G w wr none
def PgRel (w : World) (sl : List Wsl) (l : List Wsp) (i : Value) (wr : World) : Prop := ∃ k : Nat, k ≤ sl.length ∧ i = .int .i64 k ∧ plF l sl = plF l (sl.drop k) ∧ G w wr none
def PhRel (w : World) (l : List Wsp) (a : Int) (s11 i : Value) (wr : World) : Prop := ∃ k : Nat, k ≤ l.length ∧ i = .int .i64 k ∧ s11 = .int .i64 (cnt a (l.take k)) ∧ G w wr none
set_option maxRecDepth 100000 in
set_option maxHeartbeats 8000000 in
theorem placedFault_c (vs vw vp : Value) (sl : List Wsl) (W : List Wsw) (l : List Wsp) (w : World) (hs : RdR w 2 wslC vs sl) (hw : RdR w 3 wswC vw W) (hp : RdR w 2 wspC vp l) (es : wslE sl = 0) (ew : wswE W = 0) (el : wspE l = 0) :
    Calls Tryd.prog 67 #[vs, vw, vp] w fun e w' => e = .returned (.int .i64 (plX sl W l)) ∧ G w w' none := by
  have HSL := Lib.hid (wslE_in es)
  have HPL := Lib.hid (wspE_in el)
  have HWL := Lib.hid (wswE_in ew)
  have ns := HSL.out.2
  have np := HPL.out.2
  have nw := HWL.out.2
  obtain ⟨a1, cap1, rfl, hcap1, hm1⟩ := RdR.form hs
  obtain ⟨a2, cap2, rfl, hcap2, hm2⟩ := RdR.form hw
  obtain ⟨a3, cap3, rfl, hcap3, hm3⟩ := RdR.form hp
  have hmf : ∀ (fn : Go.Fn) (first cap : Array Value) (w : World), (Instr.makeFunc fn first cap).run Tryd.prog w = .ok (.func fn first cap) w := fun _ _ _ _ => rfl
  obtain ⟨E, hE⟩ : ∃ E, plX sl W l = E := ⟨_, rfl⟩
  have HE : Hid (E = if W.map (·.1) ≠ l.map (·.1) then 3 else if plR sl W l = 0 then plF l sl else plR sl W l) := Lib.hid (by rw [← hE]; rfl)
  rw [hE]
  clear hE es ew el
  go_enter Tryd.func67, Tryd.ntmps67
  go_wp2_with fail
  refine (equalF_c 116 (fun _ _ => rfl) sameR_c _ _ W l _ hw hp (by omega)).mono ?_; rintro e w4 ⟨rfl, hG⟩
  replace hs := hs.quiet hG
  replace hw := hw.quiet hG
  replace hp := hp.quiet hG
  by_cases e1 : W.map (·.1) = l.map (·.1)
  rotate_left
  · obtain rfl : E = 3 := by rw [HE.out, if_pos e1]
    rw [decide_eq_false e1]
    clear HE e1
    go_wp2_with fail
    go_ret
    exact ⟨rfl, hG⟩
  have HE4 : Hid (E = if plR sl W l = 0 then plF l sl else plR sl W l) := Lib.hid (by rw [HE.out, if_neg (fun q => q e1)])
  have HLN : Hid (W.length = l.length) := Lib.hid (by have := congrArg List.length e1; simpa using this)
  rw [decide_eq_true e1]
  clear e1 HE
  have HRS := Lib.hid hs
  have HRW := Lib.hid hw
  have HRP := Lib.hid hp
  clear hs hw hp
  go_wp2_with fail
  go_loopw [20] (WpfRel w4 sl W l) (fun i _ => l.length - (intOf i).toNat)
  case atStart => exact ⟨0, by omega, rfl, rfl, G.refl _ _⟩
  case round =>
    obtain ⟨k, hk, rfl, heq, hGr⟩ := hrel
    have HEQ := Lib.hid heq
    clear heq
    by_cases hlt : k < l.length
    · obtain ⟨⟨y, d⟩, hp⟩ : ∃ p, l[k]? = some p := ⟨_, List.getElem?_eq_getElem hlt⟩
      have hltw : k < W.length := by rw [HLN.out]; exact hlt
      obtain ⟨⟨h, f, t⟩, hx⟩ : ∃ p, W[k]? = some p := ⟨_, List.getElem?_eq_getElem hltw⟩
      have htb := HWL.out.1 _ (List.mem_of_getElem? hx)
      dsimp only at htb
      obtain ⟨t0, t1, t2⟩ := htb
      have HST : Hid (plR sl W l = if ¬ (f ≤ d ∧ d < t) then 16 else if rmF sl d = none then 8 else plR sl (W.drop (k + 1)) (l.drop (k + 1))) := Lib.hid (by rw [HEQ.out, drop_sw hp, drop_sw hx]; rfl)
      obtain ⟨bb, bo, rfl, -, -⟩ := RdR.elem wspC_sz HRP.out hGr hp
      obtain ⟨b2, o2, rfl, -, -⟩ := RdR.elem wswC_sz HRW.out hGr hx
      have HW := Lib.hid (wspRow HRP.out hGr hp)
      have HK := Lib.hid hlt
      have hB5 : Bk (wr.alloc (.cells #[.string y, .int .i64 d] 174)) wr.heap.size 174 #[.string y, .int .i64 d] := Bk.new wr 174 _
      have hG5 := hGr.alloc (.cells #[.string y, .int .i64 d] 174)
      have d1 := RdR.cell wswC_sz HRW.out hG5 hx 1 (.int .i64 f) rfl
      have d2 := RdR.cell wswC_sz HRW.out hG5 hx 2 (.int .i64 t) rfl
      have hwt : IntKind.i64.wrap (t - 1) = t - 1 := by rw [IntKind.wrap_i64]; omega
      clear hp hx hGr
      go_upto_region 6 with (refine wpList_load_at rfl 174 _ rfl ⟨bb, bo + k * 2, none⟩ rfl #[.string y, .int .i64 d] _ HW.out Tryd.underlying174 rfl (wsp_info (y, d)) ?_)
      clear HW
      generalize wr.alloc (.cells #[.string y, .int .i64 d] 174) = w5 at hB5 hG5 d1 d2 ⊢
      generalize wr.heap.size = gp at hB5 ⊢
      have c1 : w5.cell? ⟨gp, 1, none⟩ = some (.int .i64 d) := hB5.cell 1
      by_cases hin : f ≤ d ∧ d < t
      rotate_left
      · have hx : plR sl W l = 16 := by rw [HST.out, if_pos hin]
        obtain rfl : E = 16 := by rw [HE4.out, if_neg (by rw [hx]; decide), hx]
        have HIN := Lib.hid (fun w' => innS_c d f (t - 1) false (by unfold inB; rw [Bool.eq_false_iff]; simp; omega) w')
        clear hin hx
        go_quiet ((first | (go_at_call 114; exact Calls.quiet_of_same (HIN.out _))))
        go_wp2_with fail
        go_ret
        exact ⟨rfl, hG.trans (hG5.drewN _)⟩
      have HST2 : Hid (plR sl W l = if rmF sl d = none then 8 else plR sl (W.drop (k + 1)) (l.drop (k + 1))) := Lib.hid (by rw [HST.out, if_neg (fun q => q hin)])
      have HIN := Lib.hid (fun w' => innS_c d f (t - 1) true (by unfold inB; simp; omega) w')
      clear hin HST
      have HB5 := Lib.hid hB5
      clear hB5
      go_quiet ((first | (go_at_call 114; exact Calls.quiet_of_same (HIN.out _))))
      have hG6 := hG5.drewN nq
      have hB6 := HB5.out.quiet ((G.refl w5 none).drewN nq)
      clear d1 d2 c1 hG5 HIN
      generalize w5.drewN nq = w6 at hG6 hB6 ⊢
      go_wp2_with fail
      refine (slotHas_c _ sl y d gp _ (HRS.out.quiet hG6) (by omega) hB6).mono ?_; rintro e w7 ⟨rfl, hg⟩
      have hG7 := hG6.trans hg
      clear hG6 hB6 hg
      cases hrm : sl.any (slB d) with
      | false =>
        have hx : plR sl W l = 8 := by rw [HST2.out, if_pos (slB_none.2 hrm)]
        obtain rfl : E = 8 := by rw [HE4.out, if_neg (by rw [hx]; decide), hx]
        clear hrm hx
        go_wp2_with fail
        go_ret
        exact ⟨rfl, hG.trans hG7⟩
      | true =>
        have HN2 : Hid (plR sl W l = plR sl (W.drop (k + 1)) (l.drop (k + 1))) := Lib.hid (by rw [HST2.out, if_neg (fun q => by rw [slB_none.1 q] at hrm; cases hrm)])
        clear hrm
        go_wp2_with fail
        go_roundw
        case rel => exact ⟨k + 1, (by have := HK.out; omega), by go_num, HN2.out, hG7⟩
        case measure => have := HK.out; simp [intOf]; omega
    · obtain rfl : k = l.length := by omega
      have hx : plR sl W l = 0 := by rw [HEQ.out, ← HLN.out, List.drop_length]; rfl
      have HE5 : Hid (E = plF l sl) := Lib.hid (by rw [HE4.out, if_pos hx])
      have hG10 := hG.trans hGr
      have HRP3 := Lib.hid (HRP.out.quiet hGr)
      have HRS3 := Lib.hid (HRS.out.quiet hGr)
      clear hx HE4 HEQ HRW HRP HRS hG hGr
      generalize wr = w10 at hG10 HRP3 HRS3 ⊢
      go_wp2_with fail
      go_loopw [47] (PgRel w10 sl l) (fun i _ => sl.length - (intOf i).toNat)
      case atStart => exact ⟨0, by omega, rfl, rfl, G.refl _ _⟩
      case round =>
        obtain ⟨k, hk, rfl, heq, hGr⟩ := hrel
        have HEQ := Lib.hid heq
        clear heq
        by_cases hlt : k < sl.length
        · obtain ⟨⟨a, m⟩, hp⟩ : ∃ p, sl[k]? = some p := ⟨_, List.getElem?_eq_getElem hlt⟩
          have HST : Hid (plF l sl = if m < cnt a l then 12 else plF l (sl.drop (k + 1))) := Lib.hid (by rw [HEQ.out, drop_sw hp]; rfl)
          obtain ⟨bb, bo, rfl, -, -⟩ := RdR.elem wslC_sz HRS3.out hGr hp
          have HW := Lib.hid (wslRow HRS3.out hGr hp)
          have HK := Lib.hid hlt
          have hB5 : Bk (wr.alloc (.cells #[.int .i64 a, .int .i64 m] 166)) wr.heap.size 166 #[.int .i64 a, .int .i64 m] := Bk.new wr 166 _
          have hG5 := hGr.alloc (.cells #[.int .i64 a, .int .i64 m] 166)
          clear hp hGr
          go_upto_region 14 with (refine wpList_load_at rfl 166 _ rfl ⟨bb, bo + k * 2, none⟩ rfl #[.int .i64 a, .int .i64 m] _ HW.out Tryd.underlying166 rfl (wsl_info (a, m)) ?_)
          clear HW
          generalize wr.alloc (.cells #[.int .i64 a, .int .i64 m] 166) = w5 at hB5 hG5 ⊢
          generalize wr.heap.size = g at hB5 ⊢
          have HB5 := Lib.hid hB5
          have HG5 := Lib.hid hG5
          have HP5 := Lib.hid (HRP3.out.quiet hG5)
          clear hB5 hG5
          go_wp2_with fail
          go_loopw [11, 53] (PhRel w5 l a) (fun _ i _ => l.length - (intOf i).toNat)
          case atStart => exact ⟨0, by omega, rfl, rfl, G.refl _ _⟩
          case round =>
            obtain ⟨j, hj, rfl, rfl, hGq⟩ := hrel
            by_cases hjl : j < l.length
            · obtain ⟨⟨y, d⟩, hy⟩ : ∃ p, l[j]? = some p := ⟨_, List.getElem?_eq_getElem hjl⟩
              have HPS : Hid (cnt a (l.take (j + 1)) = cnt a (l.take j) + if d = a then 1 else 0) := Lib.hid (by rw [take_sx hy, cnt_snoc])
              have hcb := cnt_bnd a (l.take j)
              have htl : (l.take j).length ≤ 6 := by rw [List.length_take]; omega
              obtain ⟨L, hL⟩ : ∃ L, cnt a (l.take j) = L := ⟨_, rfl⟩
              rw [hL] at HPS hcb
              have hlb2 : 0 ≤ L ∧ L ≤ 6 := by omega
              obtain ⟨L0, L1⟩ := hlb2
              obtain ⟨bb2, bo2, rfl, -, -⟩ := RdR.elem wspC_sz HP5.out hGq hy
              have HW := Lib.hid (wspRow HP5.out hGq hy)
              have HJ := Lib.hid hjl
              have hB7 : Bk (wr.alloc (.cells #[.string y, .int .i64 d] 174)) wr.heap.size 174 #[.string y, .int .i64 d] := Bk.new wr 174 _
              have hG7 := hGq.alloc (.cells #[.string y, .int .i64 d] 174)
              have hB5 := HB5.out.quiet hG7
              rw [hL]
              clear hy hGq hL hcb htl
              go_upto_region 18 with (refine wpList_load_at rfl 174 _ rfl ⟨bb2, bo2 + j * 2, none⟩ rfl #[.string y, .int .i64 d] _ HW.out Tryd.underlying174 rfl (wsp_info (y, d)) ?_)
              clear HW
              generalize wr.alloc (.cells #[.string y, .int .i64 d] 174) = w7 at hB7 hG7 hB5 ⊢
              generalize wr.heap.size = gp at hB7 ⊢
              have d0 : w7.cell? ⟨g, 0, none⟩ = some (.int .i64 a) := hB5.cell 0
              have p1 : w7.cell? ⟨gp, 1, none⟩ = some (.int .i64 d) := hB7.cell 1
              clear hB5 hB7
              by_cases e1 : d = a
              · have HF : Hid (cnt a (l.take (j + 1)) = L + 1) := Lib.hid (by rw [HPS.out, if_pos e1])
                have hq : (d == a) = true := by simp [e1]
                clear e1
                go_wp2_with fail
                refine (flag1_c _).mono ?_; rintro e w8 ⟨rfl, rfl⟩
                go_wp2_with fail
                go_roundw
                case rel => exact ⟨j + 1, (by have := HJ.out; omega), by go_num, (by rw [HF.out]), hG7⟩
                case measure => have := HJ.out; simp [intOf]; omega
              · have HF : Hid (cnt a (l.take (j + 1)) = L) := Lib.hid (by rw [HPS.out, if_neg e1, Int.add_zero])
                have hq : (d == a) = false := beq_eq_false_iff_ne.2 e1
                clear e1
                go_wp2_with fail
                refine (flag0_c _).mono ?_; rintro e w8 ⟨rfl, rfl⟩
                go_wp2_with fail
                go_roundw
                case rel => exact ⟨j + 1, (by have := HJ.out; omega), by go_num, (by rw [HF.out]), hG7⟩
                case measure => have := HJ.out; simp [intOf]; omega
            · obtain rfl : j = l.length := by omega
              rw [List.take_length]
              have hG8 := HG5.out.trans hGq
              have hB8 := HB5.out.quiet hGq
              have d1 : wr.cell? ⟨g, 1, none⟩ = some (.int .i64 m) := hB8.cell 1
              obtain ⟨n, hn⟩ : ∃ n, cnt a l = n := ⟨_, rfl⟩
              rw [hn] at HST ⊢
              clear hB8 hn
              by_cases hf : m < n
              · obtain rfl : E = 12 := by rw [HE5.out, HST.out, if_pos hf]
                go_wp2_with fail
                go_ret
                exact ⟨rfl, hG10.trans hG8⟩
              · have HN2 : Hid (plF l sl = plF l (sl.drop (k + 1))) := Lib.hid (by rw [HST.out, if_neg hf])
                go_wp2_with fail
                go_roundw
                case rel => exact ⟨k + 1, (by have := HK.out; omega), by go_num, HN2.out, hG8⟩
                case measure => have := HK.out; simp [intOf]; omega
        · obtain rfl : k = sl.length := by omega
          obtain rfl : E = 0 := by rw [HE5.out, HEQ.out, List.drop_length]; rfl
          go_wp2_with fail
          go_ret
          exact ⟨rfl, hG10.trans hGr⟩
end Go.Proofs.YtndeidcddlmhbaaDoor

/- rentlaw2's own errs, when. -/
namespace Go.Proofs.YtndeidcddlmhbaaDoor
open Go.RowKit

def Errs2Rel (es : List Int) (i : Value) : Prop := ∃ k : Nat, k ≤ es.length ∧ i = .int .i64 k ∧ errsOf es = errsOf (es.drop k)
set_option maxRecDepth 100000 in
set_option maxHeartbeats 1000000 in
theorem errs2_c (es : List Int) (v : Value) (w : World) (hr : Rd w 1 v es.length (es.map (Value.int .i64))) (hn : es.length ≤ 1000) :
    Calls Tryd.prog 63 #[v] w fun e w' => e = .returned (.int .i64 (errsOf es)) ∧ w = w' := by
  obtain ⟨a, cap, rfl, hcap, hm, hlen, hnil, hcell⟩ := hr
  go_enter Tryd.func63, Tryd.ntmps63
  go_wp2_with fail
  go_loop [7] (Errs2Rel es) (fun i => es.length - (intOf i).toNat)
  case atStart => exact ⟨0, by omega, rfl, rfl⟩
  case round =>
    obtain ⟨k, hk, rfl, heq⟩ := hrel
    have HE := Lib.hid heq
    clear heq
    by_cases hlt : k < es.length
    · obtain ⟨x, hx⟩ : ∃ x, es[k]? = some x := ⟨_, List.getElem?_eq_getElem hlt⟩
      have HD : Hid (errsOf es = if x = 0 then errsOf (es.drop (k + 1)) else x) := Lib.hid (by
        rw [HE.out, List.drop_eq_getElem_cons hlt, (List.getElem?_eq_some_iff.1 hx).2]; rfl)
      cases a with
      | none => have := (hnil rfl).1; omega
      | some ad =>
        obtain ⟨bb, bo, bs⟩ := ad
        obtain ⟨e1, e2, e3⟩ := hcell _ rfl
        dsimp only at e1 e2 e3
        subst e1
        have hc := e3 k (.int .i64 x) (by rw [List.getElem?_map, hx]; rfl)
        clear hcell e3 hnil hx
        by_cases h0 : x = 0
        · subst h0
          have HF : Hid (errsOf es = errsOf (es.drop (k + 1))) := Lib.hid (by rw [HD.out, if_pos rfl])
          go_wp2_with fail
          go_round
          case rel => exact ⟨k + 1, by omega, by go_num, HF.out⟩
          case measure => simp [intOf]; omega
        · have HF : Hid (errsOf es = x) := Lib.hid (by rw [HD.out, if_neg h0])
          have h1 : (x != 0) = true := by rw [bne_iff_ne]; exact h0
          clear h0
          go_wp2_with fail
          go_ret
          exact ⟨ret_int HF.out.symm, rfl⟩
    · obtain rfl : k = es.length := by omega
      have HF : Hid (errsOf es = 0) := Lib.hid (by rw [HE.out, List.drop_length]; rfl)
      go_wp2_with fail
      go_ret
      exact ⟨ret_int HF.out.symm, rfl⟩
end Go.Proofs.YtndeidcddlmhbaaDoor

/- The law PlacesCheck. Written by genwlw.py. -/
namespace Go.Proofs.YtndeidcddlmhbaaDoor
open Go.RowKit

theorem plE_errs (sl : List Wsl) (W : List Wsw) (l : List Wsp) : (errsOf [wslE sl, wswE W, wspE l] = 0 ∧ wslE sl = 0 ∧ wswE W = 0 ∧ wspE l = 0 ∧ wplE sl W l = plX sl W l) ∨ (errsOf [wslE sl, wswE W, wspE l] ≠ 0 ∧ wplE sl W l = errsOf [wslE sl, wswE W, wspE l]) := by
  unfold wplE
  simp only [errsOf]
  by_cases h1 : wslE sl = 0
  · by_cases h2 : wswE W = 0
    · by_cases h3 : wspE l = 0
      · simp [h1, h2, h3]
      · simp [h1, h2, h3]
    · simp [h1, h2]
  · simp [h1]
theorem lsE_errs (b : List Wsb) (l : List Wsp) : errsOf [wsbE b, wspE l] = wlsE b l := by
  unfold wlsE
  simp only [errsOf]
  by_cases h1 : wsbE b = 0
  · by_cases h2 : wspE l = 0 <;> simp [h1, h2]
  · simp [h1]
theorem lsE_zero {b : List Wsb} {l : List Wsp} (h : wlsE b l = 0) : wsbE b = 0 ∧ wspE l = 0 := by
  unfold wlsE at h
  split at h
  · exact ⟨‹_›, h⟩
  · exact absurd h ‹_›
set_option maxRecDepth 100000 in
set_option maxHeartbeats 8000000 in
theorem placesCheck_c (a0 : Option Addr) (n c0 : Nat) (zs : List Int) (W : World) (hr : Rd W 1 (.slice a0 n c0) n (zs.map (Value.int .i64))) (hz : ∀ z ∈ zs, -9223372036854775808 ≤ z ∧ z ≤ 9223372036854775807) :
    Calls Tryd.prog 8 #[.slice a0 n c0] W fun e W' => e = .returned (.bool true) ∧ G W W' none := by
  have hSB : SB (W.alloc (.cells #[.slice a0 n c0, .int .i64 0] 25)) W.heap.size 0 := by
    have hB := Bk.new W 25 #[.slice a0 n c0, .int .i64 0]
    refine ⟨0, a0, n, c0, zs, Nat.le_refl _, hr.quiet ((G.refl _ _).alloc _), fun b e => ?_, hz, hB.cell 0, hB.cell 1, hB.free 1, hB.lt⟩
    obtain ⟨a', c', e', r1, r2, r3, r4, r5⟩ := hr
    cases e'
    exact (r5 b e).2.1
  have hG : G W (W.alloc (.cells #[.slice a0 n c0, .int .i64 0] 25)) (some W.heap.size) := (G.refl _ _).alloc _
  clear hr hz
  go_enter Tryd.func8, Tryd.ntmps8
  go_upto_region 2 with fail
  generalize W.alloc (.cells #[.slice a0 n c0, .int .i64 0] 25) = w0 at hSB hG ⊢
  have hs0 : W.heap.size < w0.heap.size := hSB.lt
  go_wp2_with fail
  refine (slotsG_c _ _ _ hSB (by omega)).mono ?_; rintro e w1 ⟨v1, sl, rfl, ho1, hn1, hSB1, hh⟩
  replace hG := hG.trans hh
  have hs1 : W.heap.size < w1.heap.size := hSB1.lt
  clear hSB hh
  go_wp2_with fail
  refine (wantedG_c _ _ _ hSB1 (by omega)).mono ?_; rintro e w2 ⟨v2, Wn, rfl, ho2, hk2, hd2, hn2, hSB2, hh⟩
  replace hG := hG.trans hh
  replace ho1 := OwnX.kept ho1 hh hs0
  have HK2 := Lib.hid hk2
  have HD2 := Lib.hid hd2
  have hs2 : W.heap.size < w2.heap.size := hSB2.lt
  clear hSB1 hh hk2 hd2
  go_wp2_with fail
  refine (busyG_c _ _ _ hSB2 (by omega)).mono ?_; rintro e w3 ⟨v3, Bz, rfl, ho3, hk3, hn3, hSB3, hh⟩
  replace hG := hG.trans hh
  replace ho1 := OwnX.kept ho1 hh hs0
  replace ho2 := OwnX.kept ho2 hh hs1
  have HK3 := Lib.hid hk3
  have hs3 : W.heap.size < w3.heap.size := hSB3.lt
  clear hSB2 hh hk3
  have hne2 : v2.ownBlock ≠ some W.heap.size := fun e => by have := OwnX.low ho2 _ e; omega
  go_wp2_with fail
  refine (placed_c _ Wn _ _ _ hSB3 (by omega) (Rd.of_owns ho2) hne2 HK2.out HD2.out hn2).mono ?_; rintro e w4 ⟨v4, l, rfl, ho4, hk4, hn4, hSB4, hh⟩
  replace hG := hG.trans hh
  have hR1 : RdR w4 2 wslC v1 sl := Rd.of_owns (OwnX.kept ho1 hh hs0)
  have hR2 : RdR w4 3 wswC v2 Wn := Rd.of_owns (OwnX.kept ho2 hh hs1)
  have hR3 : RdR w4 4 wsbC v3 Bz := Rd.of_owns (OwnX.kept ho3 hh hs2)
  have hR4 : RdR w4 2 wspC v4 l := Rd.of_owns ho4
  have HK4 := Lib.hid hk4
  replace hG := G.own hG (Nat.le_refl _)
  clear hSB3 hSB4 hh hk4 ho1 ho2 ho3 ho4 hne2 HD2 hs0 hs1 hs2 hs3
  have h1 := Lib.hid hn1
  have h2 := Lib.hid hn2
  have h3 := Lib.hid hn3
  have h4 := Lib.hid hn4
  clear hn1 hn2 hn3 hn4
  go_wp2_with fail
  refine (lost_c _ _ Bz l _ hR3 hR4 HK3.out HK4.out (by have := h3.out; omega) (by have := h4.out; omega)).mono ?_; rintro e w5 ⟨rfl, hh⟩
  replace hR1 := hR1.quiet hh
  replace hR2 := hR2.quiet hh
  replace hR3 := hR3.quiet hh
  replace hR4 := hR4.quiet hh
  replace hG := hG.trans hh
  clear hh
  have HLE := Lib.hid (lsE_errs Bz l)
  have HLZ := Lib.hid (@lsE_zero Bz l)
  have HLN : Hid (wlsN Bz l = if wlsE Bz l = 0 then loL Bz l else 0) := Lib.hid rfl
  have CLO := Lib.hid (fun (e1 : wsbE Bz = 0) (e2 : wspE l = 0) w' (p : RdR w' 4 wsbC v3 Bz) (q : RdR w' 2 wspC v4 l) => lostOf_c v3 v4 Bz l w' p q e1 e2)
  have CBF := Lib.hid (fun w' (p : RdR w' 4 wsbC v3 Bz) => busyFault_c v3 Bz w' p HK3.out (by have := h3.out; omega))
  have CPF := Lib.hid (fun w' (p : RdR w' 2 wspC v4 l) => placedForm_c v4 l w' p HK4.out (by have := h4.out; omega))
  have CSF := Lib.hid (fun w' (p : RdR w' 2 wslC v1 sl) => slotsFault_c v1 sl w' p (by have := h1.out; omega))
  have CWF := Lib.hid (fun w' (p : RdR w' 3 wswC v2 Wn) => wantedFault_c v2 Wn w' p HK2.out (by have := h2.out; omega))
  have CPL := Lib.hid (fun (e1 : wslE sl = 0) (e2 : wswE Wn = 0) (e3 : wspE l = 0) w' (p : RdR w' 2 wslC v1 sl) (q : RdR w' 3 wswC v2 Wn) (r : RdR w' 2 wspC v4 l) => placedFault_c v1 v2 v4 sl Wn l w' p q r e1 e2 e3)
  have CCP := Lib.hid (fun w' (p : RdR w' 2 wslC v1 sl) (q : RdR w' 3 wswC v2 Wn) (r : RdR w' 2 wspC v4 l) => checkPlaced_c v1 v2 v4 sl Wn l w' p q r HK2.out HK4.out (by have := h1.out; omega) (by have := h2.out; omega) (by have := h4.out; omega))
  have HPE := Lib.hid (plE_errs sl Wn l)
  have HRO := Lib.hid (lo_ro Bz l)
  rw [HRO.out] at CLO
  obtain ⟨a1, k1, rfl, -, -⟩ := RdR.form hR1
  obtain ⟨a2, k2, rfl, -, -⟩ := RdR.form hR2
  obtain ⟨a3, k3, rfl, -, -⟩ := RdR.form hR3
  obtain ⟨a4, k4, rfl, -, -⟩ := RdR.form hR4
  generalize wlsE Bz l = L at HLE HLZ HLN ⊢
  generalize wlsN Bz l = N at HLN ⊢
  generalize loL Bz l = M at HLN CLO
  generalize wplE sl Wn l = P at HPE CCP
  generalize plX sl Wn l = X at HPE CPL
  generalize wslE sl = E1 at HPE CSF CPL
  generalize wswE Wn = E2 at HPE CWF CPL
  generalize wspE l = E3 at HPE HLE HLZ CLO CPF CPL
  generalize wsbE Bz = E4 at HLE HLZ CLO CBF
  clear HRO
  go_wp2_with fail
  refine (CSF.out _ hR1).mono ?_; rintro e w6 ⟨rfl, hh⟩
  replace hR1 := hR1.quiet hh
  replace hR2 := hR2.quiet hh
  replace hR3 := hR3.quiet hh
  replace hR4 := hR4.quiet hh
  replace hG := hG.trans hh
  clear hh
  go_wp2_with fail
  refine (CWF.out _ hR2).mono ?_; rintro e w7 ⟨rfl, hh⟩
  replace hR1 := hR1.quiet hh
  replace hR2 := hR2.quiet hh
  replace hR3 := hR3.quiet hh
  replace hR4 := hR4.quiet hh
  replace hG := hG.trans hh
  clear hh
  go_wp2_with fail
  refine (CPF.out _ hR4).mono ?_; rintro e w8 ⟨rfl, hh⟩
  replace hR1 := hR1.quiet hh
  replace hR2 := hR2.quiet hh
  replace hR3 := hR3.quiet hh
  replace hR4 := hR4.quiet hh
  replace hG := hG.trans hh
  clear hh
  go_wp2_with fail
  refine (errs2_c [E1, E2, E3] _ _ (Rd.new #[.int .i64 E1, .int .i64 E2, .int .i64 E3] rfl (by show 3 ≤ maxLen; decide)) (by simp)).mono ?_; rintro e w' ⟨rfl, rfl⟩
  have hh := (G.refl w8 none).alloc (.cells #[.int .i64 E1, .int .i64 E2, .int .i64 E3] 36)
  replace hR1 := hR1.quiet hh
  replace hR2 := hR2.quiet hh
  replace hR3 := hR3.quiet hh
  replace hR4 := hR4.quiet hh
  replace hG := hG.trans hh
  clear hh
  obtain ⟨F, hF⟩ : ∃ F, errsOf [E1, E2, E3] = F := ⟨_, rfl⟩
  rw [hF] at HPE ⊢
  clear hF
  generalize w8.alloc (.cells #[.int .i64 E1, .int .i64 E2, .int .i64 E3] 36) = w9 at hR1 hR2 hR3 hR4 hG ⊢
  rcases HPE.out with ⟨rfl, rfl, rfl, rfl, rfl⟩ | ⟨hF0, rfl⟩
  · have CPL2 := Lib.hid (CPL.out rfl rfl rfl)
    have HZ4 : Hid (L = 0 → E4 = 0) := Lib.hid (fun q => (HLZ.out q).1)
    have CLO2 := Lib.hid (fun q => CLO.out q rfl)
    clear CPL HLZ CLO
    have hb0 : ((0 : Int) == 0) = true := rfl
    go_wp2_with fail
    refine (CPL2.out _ hR1 hR2 hR4).mono ?_; rintro e w10 ⟨rfl, hh⟩
    replace hR1 := hR1.quiet hh
    replace hR2 := hR2.quiet hh
    replace hR3 := hR3.quiet hh
    replace hR4 := hR4.quiet hh
    replace hG := hG.trans hh
    clear hh
    go_wp2_with fail
    refine (CCP.out _ hR1 hR2 hR4).mono ?_; rintro e w11 ⟨rfl, hh⟩
    replace hR1 := hR1.quiet hh
    replace hR2 := hR2.quiet hh
    replace hR3 := hR3.quiet hh
    replace hR4 := hR4.quiet hh
    replace hG := hG.trans hh
    clear hh
    go_wp2_with fail
    refine (CBF.out _ hR3).mono ?_; rintro e w12 ⟨rfl, hh⟩
    replace hR1 := hR1.quiet hh
    replace hR2 := hR2.quiet hh
    replace hR3 := hR3.quiet hh
    replace hR4 := hR4.quiet hh
    replace hG := hG.trans hh
    clear hh
    go_wp2_with fail
    refine (CPF.out _ hR4).mono ?_; rintro e w13 ⟨rfl, hh⟩
    replace hR1 := hR1.quiet hh
    replace hR2 := hR2.quiet hh
    replace hR3 := hR3.quiet hh
    replace hR4 := hR4.quiet hh
    replace hG := hG.trans hh
    clear hh
    go_wp2_with fail
    refine (errs2_c [E4, 0] _ _ (Rd.new #[.int .i64 E4, .int .i64 0] rfl (by show 2 ≤ maxLen; decide)) (by simp)).mono ?_; rintro e w' ⟨rfl, rfl⟩
    have hh := (G.refl w13 none).alloc (.cells #[.int .i64 E4, .int .i64 0] 36)
    replace hR1 := hR1.quiet hh
    replace hR2 := hR2.quiet hh
    replace hR3 := hR3.quiet hh
    replace hR4 := hR4.quiet hh
    replace hG := hG.trans hh
    clear hh
    generalize w13.alloc (.cells #[.int .i64 E4, .int .i64 0] 36) = w14 at hR1 hR2 hR3 hR4 hG ⊢
    rw [HLE.out]
    by_cases hL : L = 0
    · subst hL
      obtain rfl : N = M := by rw [HLN.out, if_pos rfl]
      have CL2 := Lib.hid (CLO2.out (HZ4.out rfl))
      clear HLN HLE HZ4 CLO2
      go_wp2_with fail
      refine (CL2.out _ hR3 hR4).mono ?_; rintro e w15 ⟨rfl, hh⟩
      replace hG := hG.trans hh
      clear hh
      go_wp2_with fail
      refine (shifted_c _).mono ?_; rintro e wm ⟨rfl, hh⟩
      replace hG := hG.trans hh
      go_wp2_with fail
      go_ret
      exact ⟨rfl, hG⟩
    · obtain rfl : N = 0 := by rw [HLN.out, if_neg hL]
      have hl0 : (L != 0) = true := bne_iff_ne.2 hL
      clear HLN HLE HZ4 CLO2 hL
      go_wp2_with fail
      refine (shifted_c _).mono ?_; rintro e wm ⟨rfl, hh⟩
      replace hG := hG.trans hh
      go_wp2_with fail
      go_ret
      exact ⟨rfl, hG⟩
  · have hb0 : (P == 0) = false := beq_eq_false_iff_ne.2 hF0
    go_wp2_with fail
    refine (CCP.out _ hR1 hR2 hR4).mono ?_; rintro e w11 ⟨rfl, hh⟩
    replace hR1 := hR1.quiet hh
    replace hR2 := hR2.quiet hh
    replace hR3 := hR3.quiet hh
    replace hR4 := hR4.quiet hh
    replace hG := hG.trans hh
    clear hh
    go_wp2_with fail
    refine (CBF.out _ hR3).mono ?_; rintro e w12 ⟨rfl, hh⟩
    replace hR1 := hR1.quiet hh
    replace hR2 := hR2.quiet hh
    replace hR3 := hR3.quiet hh
    replace hR4 := hR4.quiet hh
    replace hG := hG.trans hh
    clear hh
    go_wp2_with fail
    refine (CPF.out _ hR4).mono ?_; rintro e w13 ⟨rfl, hh⟩
    replace hR1 := hR1.quiet hh
    replace hR2 := hR2.quiet hh
    replace hR3 := hR3.quiet hh
    replace hR4 := hR4.quiet hh
    replace hG := hG.trans hh
    clear hh
    go_wp2_with fail
    refine (errs2_c [E4, E3] _ _ (Rd.new #[.int .i64 E4, .int .i64 E3] rfl (by show 2 ≤ maxLen; decide)) (by simp)).mono ?_; rintro e w' ⟨rfl, rfl⟩
    have hh := (G.refl w13 none).alloc (.cells #[.int .i64 E4, .int .i64 E3] 36)
    replace hR1 := hR1.quiet hh
    replace hR2 := hR2.quiet hh
    replace hR3 := hR3.quiet hh
    replace hR4 := hR4.quiet hh
    replace hG := hG.trans hh
    clear hh
    generalize w13.alloc (.cells #[.int .i64 E4, .int .i64 E3] 36) = w14 at hR1 hR2 hR3 hR4 hG ⊢
    rw [HLE.out]
    by_cases hL : L = 0
    · subst hL
      obtain rfl : N = M := by rw [HLN.out, if_pos rfl]
      have CL2 := Lib.hid (CLO.out (HLZ.out rfl).1 (HLZ.out rfl).2)
      clear HLN HLE HLZ CLO
      go_wp2_with fail
      refine (CL2.out _ hR3 hR4).mono ?_; rintro e w15 ⟨rfl, hh⟩
      replace hG := hG.trans hh
      clear hh
      go_wp2_with fail
      refine (shifted_c _).mono ?_; rintro e wm ⟨rfl, hh⟩
      replace hG := hG.trans hh
      go_wp2_with fail
      go_ret
      exact ⟨rfl, hG⟩
    · obtain rfl : N = 0 := by rw [HLN.out, if_neg hL]
      have hl0 : (L != 0) = true := bne_iff_ne.2 hL
      clear HLN HLE HLZ CLO hL
      go_wp2_with fail
      refine (shifted_c _).mono ?_; rintro e wm ⟨rfl, hh⟩
      replace hG := hG.trans hh
      go_wp2_with fail
      go_ret
      exact ⟨rfl, hG⟩
end Go.Proofs.YtndeidcddlmhbaaDoor

/- What the row's list of variables gives; a start that meets it. -/
namespace Go.Proofs.YtndeidcddlmhbaaDoor
open Go.ChangeShapes Go.WideShapes Go.ChangeAt Go.RowKit

theorem own : ownKnob Tryd.prog.godebug = none := by kernel_rfl
theorem c1 : Tryd.prog.cellsOf 3 = 1 := by kernel_rfl
def laidL : List (String × DataW Unit) := [("unicode/utf8.acceptRanges", Rows.laid_unicode_utf8_acceptRanges), ("unicode/utf8.first", Rows.laid_unicode_utf8_first)]
/-- A start that meets the list: what the door's run leaves, Go's own table laid by hand. -/
noncomputable def laidWorld (os : Os) : World :=
  { World.doorLaid Tryd.prog 200 os with heap := (World.doorLaid Tryd.prog 200 os).heap.modify 1 fun
      | .cells _ t fr => .cells (Lib.firstTab.map (Value.int .u8)).toArray t fr
      | o => o }
set_option maxRecDepth 100000 in
theorem laid_met (os : Os) : laidMetH Tryd.prog laidL ((laidWorld os).forCall (fun _ _ => 0) ⟨#[], #[.slice none 0 0], []⟩).memory :=
  laidMetH_of_parts3 (fuel := 8) (laidMet_of_run' 8 (by kernel_rfl) (by kernel_rfl)) (by kernel_rfl) (by kernel_rfl)

/-! ### The row's last step -/
section
variable {H : Type} {enc : TypeId × Value → H} {P : Program}
theorem post_quiet {f : Func} {s : ChangeSpec} {apart fresh handsOn again : Bool} {W W' : World} {args : Array Value} {v : Value} {ds gs : List (DataW H)} {before pa pv : List MemPlace}
    (hW : DataW.Whole enc P f.params.toList s.vars apart W args.toList ds gs before) (hg : G W W' none)
    (hres : ∀ (b : Nat) (sp : Nat → Bool) (hd : Bool), DataW.TrodAll enc P W' b sp hd f.resultTypes.toList (v.resultList f.resultTypes.size) (s.fn H (ds ++ gs)).results [])
    (hargs : ∀ sp : Nat → Bool, (∀ p ∈ before, sp p.block = true) → DataW.TrodAll enc P W' 0 sp true f.params.toList args.toList (s.fn H (ds ++ gs)).args pa)
    (hvars : ∀ sp : Nat → Bool, (∀ p ∈ before, sp p.block = true) → DataW.TrodVars enc P W' sp s.vars (s.fn H (ds ++ gs)).vars pv)
    (hps : before = pa ++ pv)
    (hok : ∀ (j : Nat) (t : TypeId) (r : Value), f.resultTypes[j]? = some t → (v.resultList f.resultTypes.size)[j]? = some r → Value.okWide P W' .any 0 t r) :
    s.post enc P f apart fresh handsOn again W args v W' := by
  have hb := hg.below
  have lt : ∀ p ∈ before, p.block < W.heap.size := fun p hp => hW.lt p hp
  have old : ∀ p ∈ before, (fun b => decide (b < W.heap.size)) p.block = true := fun p hp => decide_eq_true (lt p hp)
  have sub : ∀ p, p ∈ ([] ++ pa) ++ pv → p ∈ before := fun p hp => by rw [hps]; simpa using hp
  refine ⟨ds, gs, before, [], pa, pv, hW, hres _ _ _, hargs _ old, hvars _ old, World.keptBut_mono (fun p hp => ⟨hp, .inr (by rw [← List.mem_append, ← hps]; exact hp)⟩) (hb.frame (· ∈ before)), fun _ => ⟨hok, ?_⟩⟩
  obtain ⟨_, _, _, _, _, hz, hn⟩ := hW
  refine ⟨_, _, ([] ++ pa) ++ pv, ⟨[] ++ pa, pv, trodAll_append (hargs _ fun _ _ => rfl) (hres _ _ _), hvars _ fun _ _ => rfl, rfl, fun b off hp => ?_, fun ha => ?_⟩, fun p hp _ => sub p hp⟩
  · rw [hb.frozen (lt _ (sub _ hp))]
    exact hz b off (sub _ hp)
  · have h := hn ha
    rw [hps] at h
    simpa using h
end
theorem laidOut : laidOutB Tryd.prog = true := by kernel_rfl
theorem wf64 {n : Int} (h : (Lit.int .i64 n).wf = true) : -9223372036854775808 ≤ n ∧ n ≤ 9223372036854775807 := by
  have h1 : IntKind.i64.min = -9223372036854775808 := rfl
  have h2 : IntKind.i64.max = 9223372036854775807 := rfl
  simp only [Lit.wf, Bool.and_eq_true, decide_eq_true_eq] at h
  omega
set_option maxRecDepth 100000 in
theorem has_of_ok {W : World} {base : Nat} {a : Addr} {n c : Nat} (hok : Value.okWide Tryd.prog W .any base 22 (.slice (some a) n c)) : a.spot = none ∧ a.block < W.heap.size := by
  simp only [Value.okWide, Tryd.underlying22, Cell.okWide, Cell.ok] at hok
  obtain ⟨_, _, _, h2, row, cells, h3, _⟩ := hok
  refine ⟨h2, ?_⟩
  unfold World.shape? at h3
  cases hh : W.heap[a.block]? with
  | none => simp [hh] at h3
  | some o => exact (Array.getElem?_eq_some_iff.1 hh).1
set_option maxRecDepth 100000 in
/-- The list of numbers that came in, as the walk wants it. -/
theorem rd_of_trod {H : Type} {enc : TypeId × Value → H} {W : World} {base : Nat} {v : Value} {d : DataW H} {p : List MemPlace} (hok : Value.okWide Tryd.prog W .any base 22 v) (h : DataW.Trod enc Tryd.prog W 0 (fun _ => true) true 22 v d p) :
    ∃ (a : Option Addr) (n c : Nat) (zs : List Int), v = .slice a n c ∧ Rd W 1 (.slice a n c) n (zs.map (Value.int .i64)) ∧ ∀ z ∈ zs, -9223372036854775808 ≤ z ∧ z ≤ 9223372036854775807 := by
  obtain ⟨a0, len, cap, rfl⟩ := okWide_slice Tryd.underlying22 hok
  obtain ⟨fuel, hf⟩ := h
  rcases open_ints Tryd.underlying22 Tryd.underlying3 c1 hf with ⟨hcs, _⟩ | ⟨a, len', cap', zs, hcs, _, hl, hm, hz, _, hcell, hw⟩
  · have hcs' : [Value.slice a0 len cap] = [Value.slice none 0 0] := hcs
    injection hcs' with e _
    injection e with e1 e2 e3
    subst e1; subst e2; subst e3
    exact ⟨none, 0, 0, [], rfl, ⟨none, 0, rfl, Nat.le_refl _, Nat.zero_le _, rfl, fun _ => ⟨rfl, rfl⟩, fun b hb => by cases hb⟩, fun z hz => by cases hz⟩
  · have hcs' : [Value.slice a0 len cap] = [Value.slice (some a) len' cap'] := hcs
    injection hcs' with e _
    injection e with e1 e2 e3
    subst e1; subst e2; subst e3
    simp only [if_true] at hz
    obtain ⟨s1, s2⟩ := has_of_ok hok
    refine ⟨some a, len, cap, zs.take len, rfl, ⟨some a, cap, rfl, hl, hm, by simp; omega, (fun e => by cases e), fun b hb => ?_⟩, fun z hz' => wf64 (hw z (List.mem_of_mem_take hz'))⟩
    obtain rfl := Option.some.inj hb
    refine ⟨s1, s2, fun j u hj => ?_⟩
    rw [List.getElem?_map] at hj
    obtain ⟨z, hz1, rfl⟩ := Option.map_eq_some_iff.1 hj
    have hjl := (List.getElem?_eq_some_iff.1 hz1).1
    simp at hjl
    have hc := hcell j (by omega)
    have hz2 : zs[j]? = some z := by rw [← hz1, List.getElem?_take, if_pos (by omega)]
    rw [List.getD, hz2] at hc
    have ha : a.add j = ⟨a.block, a.off + j, none⟩ := by
      obtain ⟨ab, ao, asp⟩ := a
      dsimp only at s1
      subst s1
      exact add_at ab ao j
    rw [ha] at hc
    exact hc
end Go.Proofs.YtndeidcddlmhbaaDoor
