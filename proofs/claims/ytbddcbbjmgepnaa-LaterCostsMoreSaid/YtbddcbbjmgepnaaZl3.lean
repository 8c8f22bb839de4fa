/- Pck, GenO, Bil, Blf, Chh, GenL, Clo, Chc, Lcm, Stp, Hit, Lct, GenP, Rdl, Hiu, Odm, Bkf, Tir, Can, Low. -/
import Derived.Test.YtbddcbbjmgepnaaZl1
import Derived.Test.YtbddcbbjmgepnaaZl2
import Derived.Laws.ResultCell
import Derived.Deep.RegionHeld3
import Derived.OrdersHeld
import Derived.BigQuiet
import Derived.StillTailTactics
/- What was picked; a block as a row; 'when' at literals. -/
namespace Go.Proofs.Ytbddcbbjmgepnaa
open Go.RowKit

theorem small_of {s : ByteArray} (h : s.size ≤ 100) : Small s := by unfold Small; omega
theorem bnd_pick {zs : List Int} {r : Int} (h : r ∈ zs) (hz : zs.all (fun z => decide (-1099511627776 ≤ z ∧ z ≤ 1099511627776)) = true) : bnd r := by
  unfold bnd
  exact of_decide_eq_true (List.all_eq_true.1 hz r h)
theorem small_pick {zs : List ByteArray} {r : ByteArray} (h : r ∈ zs) (hz : zs.all (fun z => decide (z.size ≤ 100)) = true) : Small r := small_of (of_decide_eq_true (List.all_eq_true.1 hz r h))
theorem Bk.rd {w : World} {g : Nat} {T : TypeId} {cs : Array Value} (h : Bk w g T cs) (z n : Nat) (hc : cs.size = n * z) (hn : n ≤ 1000) : Rd w z (.slice (some ⟨g, 0, none⟩) n n) n cs.toList := by
  refine ⟨_, n, rfl, Nat.le_refl _, by unfold maxLen; omega, by simpa using hc, (fun e => by cases e), fun b hb => ?_⟩
  obtain rfl := Option.some.inj hb
  refine ⟨rfl, h.lt, fun j u hj => ?_⟩
  rw [Nat.zero_add, h.cell]
  simpa using hj
end Go.Proofs.Ytbddcbbjmgepnaa

/- Generator: the lines of a bill. Written by genlin.py. -/
namespace Go.Proofs.Ytbddcbbjmgepnaa
open Go.RowKit

theorem li_oneL (r : Li) : ∀ u ∈ (liC r).toList, u.oneCell' = true := by
  intro u hu
  simp [liC] at hu
  rcases hu with rfl | rfl | rfl <;> rfl
theorem li_rowOk : RowOk Try.prog 84 52 3 32 (.agg (liC (0, ⟨#[]⟩, 0))) liC := ⟨by kernel_rfl, Try.underlying52, li_oneL, liC_sz, rfl, by omega, by omega⟩
abbrev OwnLi (w : World) (base : Nat) (v : Value) (l : List Li) : Prop := OwnX 84 3 liC w base v l
theorem LiOk.snoc {l : List Li} {r : Li} (h : LiOk l) (hr : Small r.2.1) : LiOk (l ++ [r]) := fun p hp => by
  rcases List.mem_append.1 hp with hp | hp
  · exact h p hp
  · obtain rfl := List.mem_singleton.1 hp
    exact hr
theorem LiOk.set {l : List Li} (h : LiOk l) {r : Li} (hr : Small r.2.1) (k : Nat) : LiOk (l.set k r) := fun p hp => by
  rcases List.mem_or_eq_of_mem_set hp with hp | rfl
  · exact h p hp
  · exact hr
def BillPost (s K : Nat) (w : World) (e : Ending) (w' : World) : Prop :=
  ∃ (v : Value) (l : List Li), e = .returned v ∧ OwnLi w' w.heap.size v l ∧ LiOk l ∧ l.length ≤ 6 ∧ SB w' s (K + 30) ∧ G w w' (some s)
theorem bill_fin {w w' : World} {s K : Nat} {v : Value} {l : List Li} (hown : OwnLi w' w.heap.size v l) (hl : LiOk l) (hn : l.length ≤ 6) (hSB : SB w' s (K + 30)) (hG : G w w' (some s)) : BillPost s K w (.returned v) w' :=
  ⟨v, l, rfl, hown, hl, hn, hSB, hG⟩
def BlRel (w : World) (s K m : Nat) (s3 s7 : Value) (wr : World) : Prop :=
  ∃ (k : Nat) (l : List Li), k ≤ m ∧ l.length ≤ k ∧ s7 = .int .i64 k ∧ OwnLi wr w.heap.size s3 l ∧ LiOk l ∧ SB wr s (K + 1 + 3 * k) ∧ G w wr (some s)
end Go.Proofs.Ytbddcbbjmgepnaa

/- Bill: slices.Clone of lines, the function that adds a line. -/
namespace Go.Proofs.Ytbddcbbjmgepnaa
open Go.RowKit

/-- slices.Clone of lines. -/
theorem cloneLi_c (v : Value) (l : List Li) (w : World) (hr : RdR w 3 liC v l) (hn : l.length ≤ 2000) :
    Calls Try.prog 37 #[v] w fun e w' => ∃ v', e = .returned v' ∧ OwnLi w' w.heap.size v' l ∧ G w w' none := by
  have q22 : ∀ (w : World) (a : Option Addr) (n c n' c' : Nat), (binOp .eql 52 (.slice a n c) (.slice none n' c')).run Try.prog w = .ok (.bool a.isNone) w := fun w a n c n' c' => Lib.run_eql_slice_nil w _ _ a n c n' c' Try.underlying52
  obtain ⟨a, cap, rfl, h1, h2, h3, h4, h5⟩ := hr
  cases a with
  | none =>
    obtain ⟨hz, hc⟩ := h4 rfl
    subst hc
    have hl : l = [] := List.eq_nil_of_length_eq_zero hz
    subst hl
    clear h1 h2 h3 h4 h5 hn
    go_enter Try.func37, Try.ntmps37
    go_wp2_with fail
    go_ret
    exact ⟨_, rfl, World.ownsRow_nil _ _ _ _, G.refl _ _⟩
  | some ad =>
    obtain ⟨b, o, s⟩ := ad
    obtain ⟨e1, e2, e3⟩ := h5 _ rfl
    dsimp only at e1 e2 e3
    subst e1
    obtain ⟨i0, hi, hz0, hz1, hz2⟩ := info_parts li_rowOk.row
    have E3 := Lib.hid e3
    clear e3 h4 h5
    go_enter Try.func37, Try.ntmps37
    go_wp2_with (at_builtin; refine wpList_append_own _ rfl _ _ 52 rfl w.heap.size 84 i0 (.agg (liC (0, ⟨#[]⟩, 0))) 3 32 Try.underlying52 hi hz0 hz1 hz2 rfl (by omega) _ _ _ rfl (World.ownsRow_made w #[] 0 (Nat.le_refl _) (Nat.zero_le _) (by simp)) ⟨b, o, none⟩ l.length cap (rowL liC l) rfl ?qc1 ?qc2 ?qc3 ?qc4 ?qc5 ?qc6 ?_)
    case qc1 => exact h3
    case qc2 =>
      intro j u hj
      rw [add_at]
      exact Lib.cell?_alloc_some _ (E3.out j u hj)
    case qc3 => exact rowL_one li_oneL l
    case qc4 => unfold maxLen; omega
    case qc5 => omega
    case qc6 => simp
    intro v' w1 hown hgrow hnil
    go_wp2_with fail
    go_ret
    refine ⟨v', rfl, by simpa using hown, ?_⟩
    exact ((G.refl w none).alloc _).other hgrow (fun k hk => by simp [Value.ownBlock] at hk; omega)
theorem wp_append_li {w : World} {o : Oper} {a : Act} {K : Act → World → Prop} {Q : Exit → Act → World → Prop} (s x : Operand)
    (ho : o.op = .call { callee := .builtin .append, args := #[s, x], argTypes := #[52, 52] }) (base : Nat) (v : Value) (l : List Li) (hs : a.eval s = v) (hown : OwnLi w base v l)
    (g : Nat) (r : Li) (hx : a.eval x = .slice (some ⟨g, 0, none⟩) 1 1) (hb : Bk w g 84 (liC r)) (hl : l.length ≤ 3000) (hbase : base ≤ w.heap.size)
    (hK : ∀ v' w', OwnLi w' base v' (l ++ [r]) → w.grownBy w' v.ownBlock → K (a.put o.dst v') w') : o.wp Try.prog a w K Q := by
  obtain ⟨i0, hi, hz0, hz1, hz2⟩ := info_parts li_rowOk.row
  refine wp_append_own w s x 52 ho base 84 i0 (.agg (liC (0, ⟨#[]⟩, 0))) 3 32 li_rowOk.slice hi hz0 hz1 hz2 rfl (by omega) v l.length (rowL liC l) hs hown ⟨g, 0, none⟩ 1 1 (liC r).toList hx (by rw [Array.length_toList, liC_sz]) (bk_at hb) (li_oneL r) (by unfold maxLen; omega) (by omega) hbase ?_
  intro v' w' h1 h2 _
  refine hK v' w' ?_ h2
  show World.ownsRow _ _ _ _ _ (l ++ [r]).length _
  rw [List.length_append, rowL_snoc]
  exact h1
/-- A block of another type is not the row's. -/
theorem OwnX.bk_ne {α : Type} {T T' : TypeId} {z : Nat} {c : α → Array Value} {w : World} {base g : Nat} {v : Value} {l : List α} {cs : Array Value} (h : OwnX T z c w base v l) (hB : Bk w g T' cs) (hT : T ≠ T') : some g ≠ v.ownBlock := by
  rcases h.2 with ⟨rfl, h3⟩ | ⟨b, cap, cur, rfl, hb, hg, _⟩
  · intro e; cases e
  · intro e
    have e : g = b := Option.some.inj e
    subst e
    unfold Bk at hB
    rw [hB] at hg
    cases hg
    exact hT rfl
def liAdd (ls : List Li) (k : ByteArray) (c : Int) : List Li := if c = 0 then ls else ls ++ [(6, k, c)]
theorem liAdd_len (ls : List Li) (k : ByteArray) (c : Int) : ls.length ≤ (liAdd ls k c).length ∧ (liAdd ls k c).length ≤ ls.length + 1 := by
  unfold liAdd
  split
  · omega
  · simp
theorem LiOk.add {ls : List Li} {k : ByteArray} {c : Int} (h : LiOk ls) (hk : Small k) : LiOk (liAdd ls k c) := by
  unfold liAdd
  split
  · exact h
  · exact LiOk.snoc h hk
set_option maxRecDepth 100000 in
set_option maxHeartbeats 1000000 in
theorem add1_c (k : ByteArray) (c : Int) (ls : List Li) (g base : Nat) (v : Value) (w : World) (hbs : base ≤ w.heap.size) (hown : OwnLi w base v ls) (hB : Bk w g 52 #[v]) (hn : ls.length ≤ 2900) :
    Calls Try.prog 38 #[.string k, .int .i64 c, .pointer (some ⟨g, 0, none⟩)] w fun e w' => e = .returned (.tuple #[]) ∧ ∃ v', OwnLi w' base v' (liAdd ls k c) ∧ Bk w' g 52 #[v'] ∧ GS (fun j => j = g ∨ base ≤ j) w w' := by
  obtain ⟨a, cap, rfl, -, -⟩ := RdR.form (Rd.of_owns hown)
  by_cases h0 : c = 0
  · have HL : Hid (liAdd ls k c = ls) := Lib.hid (if_pos h0)
    subst h0
    go_enter Try.func38, Try.ntmps38
    go_wp2_with fail
    (try simp only [Exit.inBlock, Exit.then])
    refine bodyPost_end (results_none rfl _ _ _) rfl ?_
    exact ⟨rfl, _, by rw [HL.out]; exact hown, hB, GS.of_G (G.refl _ _)⟩
  · have HL : Hid (liAdd ls k c = ls ++ [(6, k, c)]) := Lib.hid (if_neg h0)
    have h0' : (c != 0) = true := by simpa using h0
    clear h0
    have c0 : w.cell? ⟨g, 0, none⟩ = some (.slice a ls.length cap) := hB.cell 0
    have hownA := OwnX.alloc hown (.cells (liC (6, k, c)) 84)
    have hBA := hB.alloc (.cells (liC (6, k, c)) 84)
    have hlow := OwnX.low hownA
    have hneA := OwnX.bk_ne hownA hBA (by decide)
    go_enter Try.func38, Try.ntmps38
    go_wp2_with (at_builtin; refine wpList_plain rfl fun K' hK' => wp_append_li _ _ rfl base (.slice a ls.length cap) ls rfl hownA w.heap.size (6, k, c) rfl (Bk.new w _ _) (by omega) (by simp; omega) ?_; intro v8 w8 hown8 hgrow; obtain ⟨a8, cap8, rfl, -, -⟩ := RdR.form (Rd.of_owns hown8); rw [List.length_append, show ([(6, k, c)] : List Li).length = 1 from rfl] at hown8 ⊢; have hB8 := hBA.grown hgrow hneA; have f8 := hB8.free 0; have d8 : w8.cell? ⟨g, 0, none⟩ = some (.slice a ls.length cap) := hB8.cell 0; refine hK' _ _ ?_)
    (try simp only [Exit.inBlock, Exit.then])
    refine bodyPost_end (results_none rfl _ _ _) rfl ?_
    have hgs : GS (fun j => j = g ∨ base ≤ j) w w8 := (GS.of_G ((G.refl w none).alloc (.cells (liC (6, k, c)) 84))).trans ⟨hgrow.os, hgrow.tape, hgrow.output, hgrow.size, fun j hj hS => hgrow.block j hj (fun e => hS (.inr (hlow _ e.symm)))⟩
    refine ⟨rfl, _, by rw [HL.out]; exact OwnX.far hown8 (p := ⟨g, 0, none⟩) (OwnX.bk_ne hown8 hB8 (by decide)) _, hB8.set 0 _, hgs.trans (GS.of_Gs ((G.refl w8 (some g)).setCell (p := ⟨g, 0, none⟩) (.inr rfl) _) (.inl rfl))⟩
end Go.Proofs.Ytbddcbbjmgepnaa

/- Bill. Its drawn regions are written by genblf.py. -/
namespace Go.Proofs.Ytbddcbbjmgepnaa
open Go.RowKit

def kLate : ByteArray := ⟨#[108, 97, 116, 101]⟩
def kDist : ByteArray := ⟨#[100, 105, 115, 116, 97, 110, 99, 101]⟩
def kFuel : ByteArray := ⟨#[102, 117, 101, 108]⟩
/-- The lines of a bill. -/
def billL (x : De) (h : Hh) (l : List Lg) (ls : List Li) : List Li := liAdd (liAdd (liAdd ls kLate (lcN x (laN h l))) kDist (dcN x h l)) kFuel (x.eighth * miS l)
def biE (x : De) (h : Hh) (l : List Lg) (ls : List Li) : Int := if cbE x h l ls = 0 then liE (billL x h l ls) else cbE x h l ls
def biL (x : De) (h : Hh) (l : List Lg) (ls : List Li) : List Li := if biE x h l ls = 0 then billL x h l ls else []
theorem small_late : Small kLate ∧ Small kDist ∧ Small kFuel := ⟨small_of (by decide), small_of (by decide), small_of (by decide)⟩
theorem billL_ok {x : De} {h : Hh} {l : List Lg} {ls : List Li} (hl : LiOk ls) : LiOk (billL x h l ls) := ((hl.add small_late.1).add small_late.2.1).add small_late.2.2
theorem last_ok {h : Hh} {l : List Lg} (e : hiE h l = 0) (ho : ioB l = false) : (∀ p, l[l.length - 1]? = some p → bnd p.2.2.1) ∧ 0 ≤ laN h l ∧ laN h l ≤ 5761440 := by
  obtain ⟨p, hp⟩ : ∃ p, l[l.length - 1]? = some p := ⟨_, List.getElem?_eq_getElem (by have := (hiE_pos0 e).1; omega)⟩
  have h1 := (ended_ok e ho p (List.mem_of_getElem? hp)).2
  have h2 := (rgE_ok h1).1
  have h3 := (hiE_ls e).2
  have h4 : 0 ≤ p.2.2.1 ∧ p.2.2.1 < 5761440 := by simpa [momB] using h2
  have h5 : 0 ≤ h.2.2.2 := by
    unfold tE at h3
    split at h3
    · omega
    · cases h3
  refine ⟨fun q hq => ?_, ?_⟩
  · rw [hp] at hq
    cases hq
    unfold bnd
    omega
  · unfold laN
    rw [hp]
    dsimp only
    omega
set_option maxRecDepth 100000 in
set_option maxHeartbeats 4000000 in
theorem bill_c (x : De) (h : Hh) (v : Value) (l : List Lg) (u : Value) (ls : List Li) (w : World) (hr : RdR w 9 lgC v l) (hl : LgOk l) (hs1 : Small h.1) (hs2 : Small h.2.1) (hb1 : bnd h.2.2.1) (hb2 : bnd h.2.2.2) (hn : l.length ≤ 1000)
    (hu : RdR w 3 liC u ls) (hls : LiOk ls) (hm : ls.length ≤ 1990) :
    Calls Try.prog 14 #[.agg (deC x), .agg (hiC h v), u] w fun e w' => ∃ v', e = .returned (.tuple #[v', .int .i64 (biE x h l ls)]) ∧ RdR w' 3 liC v' (biL x h l ls) ∧ G w w' none := by
  obtain ⟨a, cap, rfl, hcap, hmm⟩ := RdR.form hr
  have CB := Lib.hid (fun w' (q : RdR w' 9 lgC (.slice a l.length cap) l) (q2 : RdR w' 3 liC u ls) => checkBill_c x h _ l u ls w' q hl hs1 hs2 hb1 hb2 hn q2 hls (by omega))
  have HOK : Hid (cbE x h l ls = 0 → deE x = 0 ∧ hiE h l = 0 ∧ liE ls = 0 ∧ ioB l = false) := Lib.hid cbE_ok
  have HE1 : Hid (cbE x h l ls = 0 → biE x h l ls = liE (billL x h l ls)) := Lib.hid fun p => by unfold biE; rw [if_pos p]
  have HE2 : Hid (cbE x h l ls ≠ 0 → biE x h l ls = cbE x h l ls ∧ biL x h l ls = []) := Lib.hid fun p => by
    have q : biE x h l ls = cbE x h l ls := by unfold biE; rw [if_neg p]
    exact ⟨q, by unfold biL; rw [q, if_neg p]⟩
  have HR := Lib.hid hr
  have HU := Lib.hid hu
  have HLS := Lib.hid (billL_ok (x := x) (h := h) (l := l) hls)
  clear hr hu hls
  generalize hcb : cbE x h l ls = C at CB HOK HE1 HE2
  clear hcb
  have CDC := Lib.hid (fun (d : deE x = 0) (e : hiE h l = 0) (o : ioB l = false) w' (q : RdR w' 9 lgC (.slice a l.length cap) l) => distanceCents_c x h _ l w' d e o q hb1 hb2)
  have CLC := Lib.hid (fun (d : deE x = 0) (e : hiE h l = 0) (o : ioB l = false) w' => lateCents_c x (laN h l) w' d (last_ok e o).2.1 (by have := (last_ok e o).2.2; omega))
  have CLA := Lib.hid (fun (e : hiE h l = 0) (o : ioB l = false) w' (q : RdR w' 9 lgC (.slice a l.length cap) l) => lateness_c h _ l w' q (hiE_pos0 e).1 hn hb2 (last_ok e o).1)
  have CMI := Lib.hid (fun (e : hiE h l = 0) (o : ioB l = false) w' (q : RdR w' 9 lgC (.slice a l.length cap) l) => miSum_c h _ l w' q e o)
  have HMI := Lib.hid (fun (e : hiE h l = 0) (o : ioB l = false) => (mi_bnd e o).2)
  have HDE := Lib.hid (fun (d : deE x = 0) => (deE_ok d).2.2.1)
  have HBL : Hid (billL x h l ls = liAdd (liAdd (liAdd ls kLate (lcN x (laN h l))) kDist (dcN x h l)) kFuel (x.eighth * miS l)) := Lib.hid rfl
  have HBI : Hid (biL x h l ls = if biE x h l ls = 0 then billL x h l ls else []) := Lib.hid rfl
  generalize biL x h l ls = BIL at HE2 HBI ⊢
  generalize biE x h l ls = BIE at HE1 HE2 HBI ⊢
  generalize billL x h l ls = BL at HE1 HBI HBL HLS
  generalize lcN x (laN h l) = LC at HBL CLC
  generalize laN h l = LN at CLC CLA
  generalize dcN x h l = DC at HBL CDC
  generalize miS l = MI at HBL CMI HMI
  obtain ⟨a0, a1, a2, a3, a4, a5, a6⟩ := x
  dsimp only at HBL HDE
  rw [show deC ⟨a0, a1, a2, a3, a4, a5, a6⟩ = #[.int .i64 a0, .int .i64 a1, .int .i64 a2, .int .i64 a3, .int .i64 a4, .int .i64 a5, .int .i64 a6] from rfl] at *
  have hD := (Bk.new w 42 #[.int .i64 a0, .int .i64 a1, .int .i64 a2, .int .i64 a3, .int .i64 a4, .int .i64 a5, .int .i64 a6]).alloc (.cells (hiC h (.slice a l.length cap)) 46)
  have hH := Bk.newAt (w := w.alloc (.cells #[.int .i64 a0, .int .i64 a1, .int .i64 a2, .int .i64 a3, .int .i64 a4, .int .i64 a5, .int .i64 a6] 42)) (b := w.heap.size + 1) (by simp) 46 (hiC h (.slice a l.length cap))
  have hG := ((G.refl w none).alloc (.cells #[.int .i64 a0, .int .i64 a1, .int .i64 a2, .int .i64 a3, .int .i64 a4, .int .i64 a5, .int .i64 a6] 42)).alloc (.cells (hiC h (.slice a l.length cap)) 46)
  simp only [hiC] at hD hH hG CB CDC CLA CMI ⊢
  go_enter Try.func14, Try.ntmps14
  go_upto_region 1 with fail
  generalize (w.alloc (.cells #[.int .i64 a0, .int .i64 a1, .int .i64 a2, .int .i64 a3, .int .i64 a4, .int .i64 a5, .int .i64 a6] 42)).alloc (.cells #[.string h.1, .string h.2.1, .int .i64 h.2.2.1, .int .i64 h.2.2.2, .slice a l.length cap] 46) = w2 at hG hD hH ⊢
  go_wp2_with (first | (refine wpList_load_row rfl 42 _ rfl w.heap.size rfl 42 #[.int .i64 a0, .int .i64 a1, .int .i64 a2, .int .i64 a3, .int .i64 a4, .int .i64 a5, .int .i64 a6] (0, 0) _ hD Try.underlying42 rfl (de_info ⟨a0, a1, a2, a3, a4, a5, a6⟩) ?_) | (refine wpList_load_row rfl 46 _ rfl (w.heap.size + 1) rfl 46 #[.string h.1, .string h.2.1, .int .i64 h.2.2.1, .int .i64 h.2.2.2, .slice a l.length cap] (0, 0) _ hH Try.underlying46 rfl (hi_info h _) ?_))
  refine (CB.out _ (HR.out.quiet hG) (HU.out.quiet hG)).mono ?_; rintro e w3 ⟨rfl, hG3⟩
  have hD3 := hD.quiet hG3
  have hH3 := hH.quiet hG3
  have hG3 := hG.trans hG3
  clear hD hH hG CB
  by_cases k1 : C = 0
  · obtain ⟨o1, o2, -, o4⟩ := HOK.out k1
    have HX := Lib.hid (HE1.out k1)
    have hmi := HMI.out o2 o4
    have hde := HDE.out o1
    have CDC1 := Lib.hid (CDC.out o1 o2 o4)
    have CLC1 := Lib.hid (CLC.out o1 o2 o4)
    have CLA1 := Lib.hid (CLA.out o2 o4)
    have CMI1 := Lib.hid (CMI.out o2 o4)
    clear CDC CLC CLA CMI HMI HDE HE1 HE2 HOK o1 o2 o4
    subst k1
    have hwm : IntKind.i64.wrap (a2 * MI) = a2 * MI := by
      have q1 : 0 ≤ a2 * MI := Int.mul_nonneg hde.1 hmi.1
      have q2 : a2 * MI ≤ 100000 * 160 := Int.mul_le_mul hde.2 hmi.2 hmi.1 (by omega)
      rw [IntKind.wrap_i64]; omega
    clear hmi hde
    go_wp2_with fail
    refine (cloneLi_c u ls _ (HU.out.quiet hG3) (by omega)).mono ?_; rintro e w4 ⟨v1, rfl, hown4, hG4⟩
    have hsz4 : w3.heap.size ≤ w4.heap.size := hG4.size
    have hsz3 : w.heap.size + 2 ≤ w3.heap.size := by have := hH3.lt; omega
    have hD5 := (hD3.quiet hG4).alloc (.cells #[v1] 52)
    have hH5 := (hH3.quiet hG4).alloc (.cells #[v1] 52)
    have hG5 := (hG3.trans hG4).alloc (.cells #[v1] 52)
    have hown5 := OwnX.alloc hown4 (.cells #[v1] 52)
    have hL5 := Bk.new w4 52 #[v1]
    obtain ⟨b1, cap1, rfl, -, -⟩ := RdR.form (Rd.of_owns hown4)
    have hbs : w3.heap.size ≤ (w4.alloc (.cells #[.slice b1 ls.length cap1] 52)).heap.size := by simp; omega
    clear hD3 hH3 hG3 hown4 hG4
    go_upto_region 6 with fail
    generalize w4.alloc (.cells #[.slice b1 ls.length cap1] 52) = w5 at hD5 hH5 hG5 hown5 hL5 hbs ⊢
    have hgz : w.heap.size + 2 ≤ w4.heap.size := by omega
    generalize w4.heap.size = g at hL5 hgz ⊢
    have hz5 : w3.heap.size ≤ w5.heap.size := hbs
    clear hbs
    -- @REGION1
    have hq := (G.refl w5 none).drew
    have hD6 := hD5.quiet hq
    have hH6 := hH5.quiet hq
    have hL6 := hL5.quiet hq
    have hown6 := OwnX.quiet hown5 hq
    have hz6 := Nat.le_trans hz5 hq.size
    have hG6 := hG5.trans hq
    clear hq hD5 hH5 hL5 hown5 hz5 hG5
    refine wp_region_held_drew (S := (fun w' => w'.cell? ⟨w.heap.size, 0, none⟩ = some (.int .i64 a0) ∧ w'.cell? ⟨w.heap.size, 1, none⟩ = some (.int .i64 a1) ∧ w'.cell? ⟨w.heap.size, 2, none⟩ = some (.int .i64 a2) ∧ w'.cell? ⟨w.heap.size, 3, none⟩ = some (.int .i64 a3) ∧ w'.cell? ⟨w.heap.size, 4, none⟩ = some (.int .i64 a4) ∧ w'.cell? ⟨w.heap.size, 5, none⟩ = some (.int .i64 a5) ∧ w'.cell? ⟨w.heap.size, 6, none⟩ = some (.int .i64 a6) ∧ w'.cell? ⟨w.heap.size + 1, 0, none⟩ = some (.string h.1) ∧ w'.cell? ⟨w.heap.size + 1, 1, none⟩ = some (.string h.2.1) ∧ w'.cell? ⟨w.heap.size + 1, 2, none⟩ = some (.int .i64 h.2.2.1) ∧ w'.cell? ⟨w.heap.size + 1, 3, none⟩ = some (.int .i64 h.2.2.2) ∧ w'.cell? ⟨w.heap.size + 1, 4, none⟩ = some (.slice a l.length cap))) (by kernel_rfl) ?_ (fun hHeld => ?_)
    · exact ⟨hD6.cell 0, hD6.cell 1, hD6.cell 2, hD6.cell 3, hD6.cell 4, hD6.cell 5, hD6.cell 6, hH6.cell 0, hH6.cell 1, hH6.cell 2, hH6.cell 3, hH6.cell 4⟩
    refine wpAnyH_take (i := 0) (oi := { dst := some 22, op := Op.move (Operand.tmp 10), type := 85, pos := _, after := #[], guard := none }) (v := ?_) rfl (by kernel_rfl) (by kernel_rfl) (by kernel_rfl) (fun _ _ _ h => h) (Or.inl ⟨by rfl, ?_⟩) (by assumption) ?_
    rotate_left
    · (intro w hSw; obtain ⟨s0, s1, s2, s3, s4, s5, s6, s7, s8, s9, s10, s11⟩ := hSw; (go_simp <;> with_reducible rfl))
    try simp only [Act.put, List.setIfInBounds_toArray, List.set_cons_zero, List.set_cons_succ]
    refine wpAnyH_take (i := 1) (oi := { dst := some 23, op := Op.load 42 (Operand.tmp 3), type := 42, pos := _, after := #[], guard := none }) (v := ?_) rfl (by kernel_rfl) (by kernel_rfl) (by kernel_rfl) (fun _ _ _ h => h) (Or.inl ⟨by rfl, ?_⟩) (by assumption) ?_
    rotate_left
    · (intro w hSw; obtain ⟨s0, s1, s2, s3, s4, s5, s6, s7, s8, s9, s10, s11⟩ := hSw; (go_simp <;> with_reducible rfl))
    try simp only [Act.put, List.setIfInBounds_toArray, List.set_cons_zero, List.set_cons_succ]
    refine wpAnyH_take (i := 2) (oi := { dst := some 24, op := Op.load 46 (Operand.tmp 4), type := 46, pos := _, after := #[], guard := none }) (v := ?_) rfl (by kernel_rfl) (by kernel_rfl) (by kernel_rfl) (fun _ _ _ h => h) (Or.inl ⟨by rfl, ?_⟩) (by assumption) ?_
    rotate_left
    · (intro w hSw; obtain ⟨s0, s1, s2, s3, s4, s5, s6, s7, s8, s9, s10, s11⟩ := hSw; (go_simp <;> with_reducible rfl))
    try simp only [Act.put, List.setIfInBounds_toArray, List.set_cons_zero, List.set_cons_succ]
    refine wpAnyH_ready (rs := [3]) (by kernel_rfl) (by simp) ?_
    refine AllReadyH.cons (o := { dst := some 25, op := Op.call { callee := Callee.value (Operand.func 40), args := #[Operand.tmp 24], argTypes := #[46] }, type := 3, pos := _, after := #[{ on := 2, ground := Ground.data }], guard := none }) rfl (fun K hK => ?_) AllReadyH.nil
    go_simp
    refine (CLA1.out _ (HR.out.quiet hG6)).mono ?_
    rintro e w7 ⟨rfl, hh⟩
    have hD7 := hD6.quiet hh
    have hH7 := hH6.quiet hh
    have hL7 := hL6.quiet hh
    have hown7 := OwnX.quiet hown6 hh
    have hz7 := Nat.le_trans hz6 hh.size
    have hG7 := hG6.trans hh
    clear hh hD6 hH6 hL6 hown6 hz6 hG6
    refine hK.out _ _ ?_ (fun hHeld => ?_)
    · exact ⟨hD7.cell 0, hD7.cell 1, hD7.cell 2, hD7.cell 3, hD7.cell 4, hD7.cell 5, hD7.cell 6, hH7.cell 0, hH7.cell 1, hH7.cell 2, hH7.cell 3, hH7.cell 4⟩
    clear hK K
    try simp only [Act.put, List.setIfInBounds_toArray, List.set_cons_zero, List.set_cons_succ]
    refine wpAnyH_ready (rs := [4]) (by kernel_rfl) (by simp) ?_
    refine AllReadyH.cons (o := { dst := some 26, op := Op.call { callee := Callee.value (Operand.func 39), args := #[Operand.tmp 23, Operand.tmp 25], argTypes := #[42, 3] }, type := 3, pos := _, after := #[{ on := 1, ground := Ground.data }, { on := 3, ground := Ground.data }, { on := 3, ground := Ground.chain }], guard := none }) rfl (fun K hK => ?_) AllReadyH.nil
    go_simp
    refine (CLC1.out _).mono ?_
    rintro e w8 ⟨rfl, hh⟩
    have hD8 := hD7.quiet hh
    have hH8 := hH7.quiet hh
    have hL8 := hL7.quiet hh
    have hown8 := OwnX.quiet hown7 hh
    have hz8 := Nat.le_trans hz7 hh.size
    have hG8 := hG7.trans hh
    clear hh hD7 hH7 hL7 hown7 hz7 hG7
    refine hK.out _ _ ?_ (fun hHeld => ?_)
    · exact ⟨hD8.cell 0, hD8.cell 1, hD8.cell 2, hD8.cell 3, hD8.cell 4, hD8.cell 5, hD8.cell 6, hH8.cell 0, hH8.cell 1, hH8.cell 2, hH8.cell 3, hH8.cell 4⟩
    clear hK K
    try simp only [Act.put, List.setIfInBounds_toArray, List.set_cons_zero, List.set_cons_succ]
    refine wpAnyH_ready (rs := [5]) (by kernel_rfl) (by simp) ?_
    refine AllReadyH.cons (o := { dst := some 27, op := Op.call { callee := Callee.value (Operand.tmp 22), args := #[Operand.const (Value.string { data := #[108, 97, 116, 101] }), Operand.tmp 26], argTypes := #[9, 3] }, type := 0, pos := _, after := #[{ on := 0, ground := Ground.data }, { on := 4, ground := Ground.data }, { on := 4, ground := Ground.chain }], guard := none }) rfl (fun K hK => ?_) AllReadyH.nil
    go_simp
    refine (add1_c kLate LC ls g w3.heap.size _ _ hz8 hown8 hL8 (by omega)).mono ?_
    rintro e w9 ⟨rfl, v9, hown9, hL9, hS⟩
    have hD9 := hD8.gs hS (fun e => by rcases e with e | e <;> omega)
    have hH9 := hH8.gs hS (fun e => by rcases e with e | e <;> omega)
    have hz9 := Nat.le_trans hz8 hS.size
    have hG9 := GS.own hG8 hS (fun k e => by rcases e with rfl | e <;> omega)
    clear hS hD8 hH8 hL8 hown8 hz8 hG8
    refine hK.out _ _ ?_ (fun hHeld => ?_)
    · exact ⟨hD9.cell 0, hD9.cell 1, hD9.cell 2, hD9.cell 3, hD9.cell 4, hD9.cell 5, hD9.cell 6, hH9.cell 0, hH9.cell 1, hH9.cell 2, hH9.cell 3, hH9.cell 4⟩
    clear hK K
    try simp only [Act.put, List.setIfInBounds_toArray, List.set_cons_zero, List.set_cons_succ]
    refine wpAnyH_done (by kernel_rfl) ?_ _
    -- @END1
    -- @REGION2
    go_wp2_with (first | (refine wpList_load_row rfl 42 _ rfl w.heap.size rfl 42 #[.int .i64 a0, .int .i64 a1, .int .i64 a2, .int .i64 a3, .int .i64 a4, .int .i64 a5, .int .i64 a6] (0, 0) _ hD9 Try.underlying42 rfl (de_info ⟨a0, a1, a2, a3, a4, a5, a6⟩) ?_) | (refine wpList_load_row rfl 46 _ rfl (w.heap.size + 1) rfl 46 #[.string h.1, .string h.2.1, .int .i64 h.2.2.1, .int .i64 h.2.2.2, .slice a l.length cap] (0, 0) _ hH9 Try.underlying46 rfl (hi_info h _) ?_))
    refine (CDC1.out _ (HR.out.quiet hG9)).mono ?_
    rintro e w10 ⟨rfl, hh⟩
    have hD10 := hD9.quiet hh
    have hH10 := hH9.quiet hh
    have hL10 := hL9.quiet hh
    have hown10 := OwnX.quiet hown9 hh
    have hz10 := Nat.le_trans hz9 hh.size
    have hG10 := hG9.trans hh
    clear hh hD9 hH9 hL9 hown9 hz9 hG9
    go_wp2_with fail
    refine (add1_c kDist DC (liAdd ls kLate LC) g w3.heap.size _ _ hz10 hown10 hL10 (by have := (liAdd_len ls kLate LC).2; omega)).mono ?_
    rintro e w11 ⟨rfl, v11, hown11, hL11, hS⟩
    have hD11 := hD10.gs hS (fun e => by rcases e with e | e <;> omega)
    have hH11 := hH10.gs hS (fun e => by rcases e with e | e <;> omega)
    have hz11 := Nat.le_trans hz10 hS.size
    have hG11 := GS.own hG10 hS (fun k e => by rcases e with rfl | e <;> omega)
    clear hS hD10 hH10 hL10 hown10 hz10 hG10
    go_upto_region 8 with fail
    have hq := (G.refl w11 none).drew
    have hD12 := hD11.quiet hq
    have hH12 := hH11.quiet hq
    have hL12 := hL11.quiet hq
    have hown12 := OwnX.quiet hown11 hq
    have hz12 := Nat.le_trans hz11 hq.size
    have hG12 := hG11.trans hq
    clear hq hD11 hH11 hL11 hown11 hz11 hG11
    refine wp_region_held_drew (S := (fun w' => w'.cell? ⟨w.heap.size, 0, none⟩ = some (.int .i64 a0) ∧ w'.cell? ⟨w.heap.size, 1, none⟩ = some (.int .i64 a1) ∧ w'.cell? ⟨w.heap.size, 2, none⟩ = some (.int .i64 a2) ∧ w'.cell? ⟨w.heap.size, 3, none⟩ = some (.int .i64 a3) ∧ w'.cell? ⟨w.heap.size, 4, none⟩ = some (.int .i64 a4) ∧ w'.cell? ⟨w.heap.size, 5, none⟩ = some (.int .i64 a5) ∧ w'.cell? ⟨w.heap.size, 6, none⟩ = some (.int .i64 a6) ∧ w'.cell? ⟨w.heap.size + 1, 0, none⟩ = some (.string h.1) ∧ w'.cell? ⟨w.heap.size + 1, 1, none⟩ = some (.string h.2.1) ∧ w'.cell? ⟨w.heap.size + 1, 2, none⟩ = some (.int .i64 h.2.2.1) ∧ w'.cell? ⟨w.heap.size + 1, 3, none⟩ = some (.int .i64 h.2.2.2) ∧ w'.cell? ⟨w.heap.size + 1, 4, none⟩ = some (.slice a l.length cap))) (by kernel_rfl) ?_ (fun hHeld => ?_)
    · exact ⟨hD12.cell 0, hD12.cell 1, hD12.cell 2, hD12.cell 3, hD12.cell 4, hD12.cell 5, hD12.cell 6, hH12.cell 0, hH12.cell 1, hH12.cell 2, hH12.cell 3, hH12.cell 4⟩
    refine wpAnyH_take (i := 0) (oi := { dst := some 33, op := Op.move (Operand.tmp 10), type := 85, pos := _, after := #[], guard := none }) (v := ?_) rfl (by kernel_rfl) (by kernel_rfl) (by kernel_rfl) (fun _ _ _ h => h) (Or.inl ⟨by rfl, ?_⟩) (by assumption) ?_
    rotate_left
    · (intro w hSw; obtain ⟨s0, s1, s2, s3, s4, s5, s6, s7, s8, s9, s10, s11⟩ := hSw; (go_simp <;> with_reducible rfl))
    try simp only [Act.put, List.setIfInBounds_toArray, List.set_cons_zero, List.set_cons_succ]
    refine wpAnyH_take (i := 1) (oi := { dst := some 34, op := Op.fieldAddr 42 (Operand.tmp 3) 2, type := 0, pos := _, after := #[], guard := none }) (v := ?_) rfl (by kernel_rfl) (by kernel_rfl) (by kernel_rfl) (fun _ _ _ h => h) (Or.inl ⟨by rfl, ?_⟩) (by assumption) ?_
    rotate_left
    · (intro w hSw; obtain ⟨s0, s1, s2, s3, s4, s5, s6, s7, s8, s9, s10, s11⟩ := hSw; (go_simp <;> with_reducible rfl))
    try simp only [Act.put, List.setIfInBounds_toArray, List.set_cons_zero, List.set_cons_succ]
    refine wpAnyH_take (i := 2) (oi := { dst := some 35, op := Op.load 3 (Operand.tmp 34), type := 3, pos := _, after := #[{ on := 1, ground := Ground.data }], guard := none }) (v := ?_) rfl (by kernel_rfl) (by kernel_rfl) (by kernel_rfl) (fun _ _ _ h => h) (Or.inl ⟨by rfl, ?_⟩) (by assumption) ?_
    rotate_left
    · (intro w hSw; obtain ⟨s0, s1, s2, s3, s4, s5, s6, s7, s8, s9, s10, s11⟩ := hSw; (go_simp <;> with_reducible rfl))
    try simp only [Act.put, List.setIfInBounds_toArray, List.set_cons_zero, List.set_cons_succ]
    refine wpAnyH_take (i := 3) (oi := { dst := some 36, op := Op.load 46 (Operand.tmp 4), type := 46, pos := _, after := #[], guard := none }) (v := ?_) rfl (by kernel_rfl) (by kernel_rfl) (by kernel_rfl) (fun _ _ _ h => h) (Or.inl ⟨by rfl, ?_⟩) (by assumption) ?_
    rotate_left
    · (intro w hSw; obtain ⟨s0, s1, s2, s3, s4, s5, s6, s7, s8, s9, s10, s11⟩ := hSw; (go_simp <;> with_reducible rfl))
    try simp only [Act.put, List.setIfInBounds_toArray, List.set_cons_zero, List.set_cons_succ]
    refine wpAnyH_ready (rs := [4]) (by kernel_rfl) (by simp) ?_
    refine AllReadyH.cons (o := { dst := some 37, op := Op.call { callee := Callee.value (Operand.func 42), args := #[Operand.tmp 36, Operand.func 43], argTypes := #[46, 90] }, type := 3, pos := _, after := #[{ on := 3, ground := Ground.data }], guard := none }) rfl (fun K hK => ?_) AllReadyH.nil
    go_simp
    refine (CMI1.out _ (HR.out.quiet hG12)).mono ?_
    rintro e w13 ⟨rfl, hh⟩
    have hD13 := hD12.quiet hh
    have hH13 := hH12.quiet hh
    have hL13 := hL12.quiet hh
    have hown13 := OwnX.quiet hown12 hh
    have hz13 := Nat.le_trans hz12 hh.size
    have hG13 := hG12.trans hh
    clear hh hD12 hH12 hL12 hown12 hz12 hG12
    refine hK.out _ _ ?_ (fun hHeld => ?_)
    · exact ⟨hD13.cell 0, hD13.cell 1, hD13.cell 2, hD13.cell 3, hD13.cell 4, hD13.cell 5, hD13.cell 6, hH13.cell 0, hH13.cell 1, hH13.cell 2, hH13.cell 3, hH13.cell 4⟩
    clear hK K
    try simp only [Act.put, List.setIfInBounds_toArray, List.set_cons_zero, List.set_cons_succ]
    refine wpAnyH_take (i := 5) (oi := { dst := some 38, op := Op.binOp BinOp.mul 3 (Operand.tmp 35) (Operand.tmp 37) 3, type := 3, pos := _, after := #[{ on := 2, ground := Ground.data }, { on := 4, ground := Ground.data }], guard := none }) (v := ?_) rfl (by kernel_rfl) (by kernel_rfl) (by kernel_rfl) (fun _ _ _ h => h) (Or.inl ⟨by rfl, ?_⟩) (by assumption) ?_
    rotate_left
    · (intro w hSw; obtain ⟨s0, s1, s2, s3, s4, s5, s6, s7, s8, s9, s10, s11⟩ := hSw; (go_simp <;> with_reducible rfl))
    try simp only [Act.put, List.setIfInBounds_toArray, List.set_cons_zero, List.set_cons_succ]
    refine wpAnyH_ready (rs := [6]) (by kernel_rfl) (by simp) ?_
    refine AllReadyH.cons (o := { dst := some 39, op := Op.call { callee := Callee.value (Operand.tmp 33), args := #[Operand.const (Value.string { data := #[102, 117, 101, 108] }), Operand.tmp 38], argTypes := #[9, 3] }, type := 0, pos := _, after := #[{ on := 0, ground := Ground.data }, { on := 5, ground := Ground.data }, { on := 4, ground := Ground.chain }], guard := none }) rfl (fun K hK => ?_) AllReadyH.nil
    go_simp
    refine (add1_c kFuel (a2 * MI) (liAdd (liAdd ls kLate LC) kDist DC) g w3.heap.size _ _ hz13 hown13 hL13 (by have := (liAdd_len ls kLate LC).2; have := (liAdd_len (liAdd ls kLate LC) kDist DC).2; omega)).mono ?_
    rintro e w14 ⟨rfl, v14, hown14, hL14, hS⟩
    have hD14 := hD13.gs hS (fun e => by rcases e with e | e <;> omega)
    have hH14 := hH13.gs hS (fun e => by rcases e with e | e <;> omega)
    have hz14 := Nat.le_trans hz13 hS.size
    have hG14 := GS.own hG13 hS (fun k e => by rcases e with rfl | e <;> omega)
    clear hS hD13 hH13 hL13 hown13 hz13 hG13
    refine hK.out _ _ ?_ (fun hHeld => ?_)
    · exact ⟨hD14.cell 0, hD14.cell 1, hD14.cell 2, hD14.cell 3, hD14.cell 4, hD14.cell 5, hD14.cell 6, hH14.cell 0, hH14.cell 1, hH14.cell 2, hH14.cell 3, hH14.cell 4⟩
    clear hK K
    try simp only [Act.put, List.setIfInBounds_toArray, List.set_cons_zero, List.set_cons_succ]
    refine wpAnyH_done (by kernel_rfl) ?_ _
    -- @END2
    have hlen : (liAdd (liAdd (liAdd ls kLate LC) kDist DC) kFuel (a2 * MI)).length ≤ 1993 := by
      have := (liAdd_len ls kLate LC).2
      have := (liAdd_len (liAdd ls kLate LC) kDist DC).2
      have := (liAdd_len (liAdd (liAdd ls kLate LC) kDist DC) kFuel (a2 * MI)).2
      omega
    rw [← HBL.out] at hown14 hlen
    obtain ⟨b2, cap2, rfl, -, -⟩ := RdR.form (Rd.of_owns hown14)
    have c14 : w14.cell? ⟨g, 0, none⟩ = some (.slice b2 BL.length cap2) := hL14.cell 0
    go_wp2_with fail
    refine (checkLines_c _ BL _ (Rd.of_owns hown14) HLS.out (by omega)).mono ?_; rintro e w15 ⟨rfl, hh⟩
    have hR15 := Rd.quiet (Rd.of_owns hown14) hh
    have hL15 := hL14.quiet hh
    have hG15 := hG14.trans hh
    have c15 : w15.cell? ⟨g, 0, none⟩ = some (.slice b2 BL.length cap2) := hL15.cell 0
    clear hh hD14 hH14 hL14 hown14 hG14 c14
    obtain ⟨LE, hLE⟩ : ∃ LE, liE BL = LE := ⟨_, rfl⟩
    have HY := Lib.hid (HX.out.trans hLE)
    rw [hLE]
    clear hLE HX
    by_cases k2 : LE = 0
    · have HZ := Lib.hid (HBI.out.trans (if_pos (HY.out.trans k2)))
      subst k2
      go_wp2_with fail
      go_ret2
      exact ⟨_, by rw [HY.out]; rfl, by rw [HZ.out]; exact hR15, hG15⟩
    · have k2' : (LE != 0) = true := by simpa using k2
      have HZ := Lib.hid (HBI.out.trans (if_neg (fun e => k2 (HY.out.symm.trans e))))
      clear k2
      go_wp2_with fail
      go_ret2
      exact ⟨_, by rw [HY.out]; rfl, by rw [HZ.out]; exact RdR.nil _ _ _, hG15⟩
  · have k1' : (C != 0) = true := by simpa using k1
    obtain ⟨q1, q2⟩ := HE2.out k1
    have HY := Lib.hid q1
    have HZ := Lib.hid q2
    clear q1 q2 k1 HE1 HE2 HOK
    go_wp2_with fail
    go_ret2
    exact ⟨_, by rw [HY.out]; rfl, by rw [HZ.out]; exact RdR.nil _ _ _, hG3⟩
end Go.Proofs.Ytbddcbbjmgepnaa

/- Hires: a change to a copy of an open hire (hire.changed, rentref1.changed), whatever the function is that changes it. -/
namespace Go.Proofs.Ytbddcbbjmgepnaa
open Go.RowKit

/-- What a function that makes a hire returns. -/
def ChPost (E : Int) (h : Hh) (l : List Lg) (w : World) (e : Ending) (w' : World) : Prop :=
  ∃ (H : Hh) (a : Option Addr) (n c : Nat), e = .returned (.tuple #[.agg #[.string H.1, .string H.2.1, .int .i64 H.2.2.1, .int .i64 H.2.2.2, .slice a n c], .int .i64 E]) ∧ H = hiH E h ∧ (∀ k, (Value.slice a n c).ownBlock = some k → w.heap.size ≤ k) ∧ RdR w' 9 lgC (.slice a n c) (hiL E l) ∧ G w w' none
def S2 (g : Nat) (v : Value) (k : Nat) : Prop := k = g ∨ v.ownBlock = some k
/-- A function that changes a hire which it is handed by its address: h, l become h2, l2. -/
def ChFn (F : FuncId) (caps : Array Value) (h : Hh) (l : List Lg) (h2 : Hh) (l2 : List Lg) (A : World) : Prop :=
  ∀ (w1 : World) (g base : Nat) (v1 : Value), G A w1 none → OwnLg w1 base v1 l → Bk w1 g 46 (hiC h v1) → A.heap.size ≤ g → g < base → base ≤ w1.heap.size →
    Calls Try.prog F (#[.pointer (some ⟨g, 0, none⟩)] ++ caps) w1 fun e w2 => e = .returned (.tuple #[]) ∧ ∃ v2, Bk w2 g 46 (hiC h2 v2) ∧ RdR w2 9 lgC v2 l2 ∧ (∀ k, v2.ownBlock = some k → base ≤ k) ∧ GS (S2 g v1) w1 w2
/-- The error of a change: of a hire that may not be right; of one that is. -/
def chE (h : Hh) (l : List Lg) (h2 : Hh) (l2 : List Lg) : Int := if hiE h l = 0 then (if ioB l = true then hiE h2 l2 else 11) else hiE h l
def chR (l : List Lg) (h2 : Hh) (l2 : List Lg) : Int := if ioB l = true then hiE h2 l2 else 11
theorem hiE_pos {h : Hh} {l : List Lg} (e : hiE h l = 0) : 0 < l.length ∧ l.length ≤ 20 := by
  unfold hiE at e
  split at e
  · cases e
  split at e
  · cases e
  split at e
  · split at e
    · cases e
    · split at e
      · cases e
      · omega
  · contradiction
theorem ch_none {w w' : World} {E : Int} (hE : E ≠ 0) (h : Hh) (l : List Lg) (hG : G w w' none) : ChPost E h l w (.returned (.tuple #[.agg #[.string ⟨#[]⟩, .string ⟨#[]⟩, .int .i64 0, .int .i64 0, .slice none 0 0], .int .i64 E])) w' :=
  ⟨(⟨#[]⟩, ⟨#[]⟩, 0, 0), none, 0, 0, rfl, by rw [hiH, if_neg hE], fun _ hk => (by cases hk), by rw [hiL, if_neg hE]; exact RdR.nil _ _ _, hG⟩
set_option maxRecDepth 100000 in
set_option maxHeartbeats 4000000 in
theorem changed_c (F : FuncId) (caps : Array Value) (h : Hh) (v : Value) (l : List Lg) (h2 : Hh) (l2 : List Lg) (w : World) (hcf : ∀ (args : Array Value) (w : World), (callFunc F args).run Try.prog w = .ok (.enter F args) w) (hcl : 0 < l.length → ChFn F caps h l h2 l2 w) (hr : RdR w 9 lgC v l) (hl : LgOk l) (hs1 : Small h.1) (hs2 : Small h.2.1) (hb1 : bnd h.2.2.1) (hb2 : bnd h.2.2.2) (hn : l.length ≤ 1000)
    (hl2 : LgOk l2) (hs12 : Small h2.1) (hs22 : Small h2.2.1) (hb12 : bnd h2.2.2.1) (hb22 : bnd h2.2.2.2) (hn2 : l2.length ≤ 1000) :
    Calls Try.prog 33 #[.agg (hiC h v), .func (.func F) #[] caps] w (ChPost (chE h l h2 l2) h2 l2 w) := by
  have hH := (Bk.new w 46 (hiC h v)).alloc (.cells hiZ 46)
  have hG := ((G.refl w none).alloc (.cells (hiC h v) 46)).alloc (.cells hiZ 46)
  have hZ := Bk.newAt (w := w.alloc (.cells (hiC h v) 46)) (b := w.heap.size + 1) (by simp) 46 hiZ
  have hR := hr.quiet hG
  have HLO := Lib.hid hr.blk
  obtain ⟨a, cap, rfl, hcap, hm⟩ := RdR.form hr
  clear hr
  have hgs := hH.lt
  have hzs := hZ.lt
  simp only [hiC, hiZ] at hH hG hR hZ hgs hzs ⊢
  go_enter Try.func33, Try.ntmps33
  go_upto_region 1 with fail
  generalize (w.alloc (.cells #[.string h.1, .string h.2.1, .int .i64 h.2.2.1, .int .i64 h.2.2.2, .slice a l.length cap] 46)).alloc (.cells #[.string ⟨#[]⟩, .string ⟨#[]⟩, .int .i64 0, .int .i64 0, .slice none 0 0] 46) = w2 at hG hH hR hZ hgs hzs ⊢
  go_wp2_with (refine wpList_load_row rfl 46 _ rfl w.heap.size rfl 46 #[.string h.1, .string h.2.1, .int .i64 h.2.2.1, .int .i64 h.2.2.2, .slice a l.length cap] (0, 0) _ hH Try.underlying46 rfl (hi_info h _) ?_)
  refine (check_c h _ l _ hR hl hs1 hs2 hb1 hb2 hn).mono ?_; rintro e w3 ⟨rfl, hG3⟩
  have hH := hH.quiet hG3
  have hZ := hZ.quiet hG3
  have hz3 : w2.heap.size ≤ w3.heap.size := hG3.size
  have hG := hG.trans hG3
  have hR := hR.quiet hG3
  clear hG3
  obtain ⟨E, hE⟩ : ∃ E, hiE h l = E := ⟨_, rfl⟩
  have HT : Hid (E = 0 → ioB l = true → chE h l h2 l2 = hiE h2 l2) := Lib.hid fun p q => by unfold chE; rw [hE, if_pos p, if_pos q]
  have HF : Hid (E = 0 → ioB l = false → chE h l h2 l2 = 11) := Lib.hid fun p q => by unfold chE; rw [hE, if_pos p, if_neg (by rw [q]; simp)]
  have HN : Hid (E ≠ 0 → chE h l h2 l2 = E) := Lib.hid fun p => by unfold chE; rw [hE, if_neg p]
  have HPOS : Hid (E = 0 → 0 < l.length) := Lib.hid (fun e => (hiE_pos (hE.trans e)).1)
  rw [hE]
  clear hE
  by_cases k1 : E = 0
  · subst k1
    have hpos := HPOS.out rfl
    have HF0 := Lib.hid (HF.out rfl)
    have HT0 := Lib.hid (HT.out rfl)
    clear HF HT HN HPOS
    go_wp2_with (refine wpList_load_row rfl 46 _ rfl w.heap.size rfl 46 #[.string h.1, .string h.2.1, .int .i64 h.2.2.1, .int .i64 h.2.2.2, .slice a l.length cap] (0, 0) _ hH Try.underlying46 rfl (hi_info h _) ?_)
    refine (isOpen_h h _ l _ hR hpos hn).mono ?_; rintro e w4 ⟨rfl, hG4⟩
    have hH := hH.quiet hG4
    have hZ := hZ.quiet hG4
    have hz4 : w2.heap.size ≤ w4.heap.size := Nat.le_trans hz3 hG4.size
    have hG := hG.trans hG4
    have hR := hR.quiet hG4
    clear hG4 hz3
    obtain ⟨B, hB⟩ : ∃ B, ioB l = B := ⟨_, rfl⟩
    have HF := Lib.hid (fun e => HF0.out (hB.trans e))
    have HT := Lib.hid (fun e => HT0.out (hB.trans e))
    clear HF0 HT0
    rw [hB]
    clear hB
    cases B with
    | false =>
      have HX := Lib.hid (HF.out rfl)
      clear HF HT
      go_wp2_with (refine wpList_store_row rfl 46 _ _ rfl (w.heap.size + 1) #[.string ⟨#[]⟩, .string ⟨#[]⟩, .int .i64 0, .int .i64 0, .slice none 0 0] rfl rfl 46 _ hZ (hi_info (⟨#[]⟩, ⟨#[]⟩, 0, 0) (.slice none 0 0)) rfl (hi_one (⟨#[]⟩, ⟨#[]⟩, 0, 0) _ _ _) ?_)
      refine bodyPost_ret (results_cell_hi rfl _ _ (w.heap.size + 1) 46 #[.string ⟨#[]⟩, .string ⟨#[]⟩, .int .i64 0, .int .i64 0, .slice none 0 0] (0, 0) _ rfl (hZ.setRow _) Try.underlying46 rfl (hi_info (⟨#[]⟩, ⟨#[]⟩, 0, 0) (.slice none 0 0))) rfl ?_
      rw [HX.out]
      exact ch_none (by omega) h2 l2 (hG.setRow (.inl (by omega)) _)
    | true =>
      have HX := Lib.hid (HT.out rfl)
      clear HF HT
      have c4 : w4.cell? ⟨w.heap.size, 4, none⟩ = some (.slice a l.length cap) := hH.cell 4
      go_wp2_with fail
      refine (cloneLg_c _ l _ hR hn).mono ?_; rintro e w5 ⟨v1, rfl, hown, hG5⟩
      obtain ⟨a1, cap1, rfl, -, -⟩ := RdR.form (Rd.of_owns hown)
      have hz5 : w4.heap.size ≤ w5.heap.size := hG5.size
      have hH5 := hH.quiet hG5
      have hZ5 := hZ.quiet hG5
      have hG5 := hG.trans hG5
      have x4 := hH5.free 4
      have c5 : w5.cell? ⟨w.heap.size, 4, none⟩ = some (.slice a l.length cap) := hH5.cell 4
      clear hH hZ hG hR c4
      have hH6 : Bk (w5.setCell ⟨w.heap.size, 4, none⟩ (.slice a1 l.length cap1)) w.heap.size 46 (hiC h (.slice a1 l.length cap1)) := hH5.set 4 (.slice a1 l.length cap1)
      have hZ6 := hZ5.far (p := ⟨w.heap.size, 4, none⟩) (show w.heap.size + 1 ≠ w.heap.size by omega) (.slice a1 l.length cap1)
      have hG6 := hG5.setCell (p := ⟨w.heap.size, 4, none⟩) (.inl (Nat.le_refl _)) (.slice a1 l.length cap1)
      have hown6 : OwnLg (w5.setCell ⟨w.heap.size, 4, none⟩ (.slice a1 l.length cap1)) w4.heap.size (.slice a1 l.length cap1) l := OwnX.far hown (p := ⟨w.heap.size, 4, none⟩) (hown.ne (.inl (by show w.heap.size < w4.heap.size; omega))) (.slice a1 l.length cap1)
      have hz6 : w4.heap.size ≤ (w5.setCell ⟨w.heap.size, 4, none⟩ (.slice a1 l.length cap1)).heap.size := by simp [World.setCell]; exact hz5
      go_upto_region 7 with fail
      generalize w5.setCell ⟨w.heap.size, 4, none⟩ (.slice a1 l.length cap1) = w6 at hH6 hZ6 hG6 hown6 hz6 ⊢
      clear hH5 hZ5 hG5 hown c5 x4
      have HC := Lib.hid (hcl hpos w6 w.heap.size w4.heap.size (.slice a1 l.length cap1) hG6 hown6 hH6 (Nat.le_refl _) (by omega) hz6)
      go_wp2_with fail
      refine HC.out.mono ?_; rintro e w7 ⟨rfl, v2, hH7, hR7, hv2, hS⟩
      have hown7 := fun k (e : (Value.slice a1 l.length cap1).ownBlock = some k) => OwnX.low hown6 k e
      have hZ7 := hZ6.gs hS (fun e => by
        rcases e with e | e
        · omega
        · have := hown7 _ e; omega)
      have hG7 := GS.own hG6 hS (fun k e => by
        rcases e with e | e
        · omega
        · have := hown7 _ e; omega)
      obtain ⟨a2, cap2, rfl, -, -⟩ := RdR.form hR7
      have HV2 := Lib.hid hv2
      clear hH6 hZ6 hG6 hown6 hS HC hown7 hv2
      simp only [hiC] at hH7
      go_wp2_with (refine wpList_load_row rfl 46 _ rfl w.heap.size rfl 46 #[.string h2.1, .string h2.2.1, .int .i64 h2.2.2.1, .int .i64 h2.2.2.2, .slice a2 l2.length cap2] (0, 0) _ hH7 Try.underlying46 rfl (hi_info h2 _) ?_)
      refine (right_c h2 _ l2 _ hR7 hl2 hs12 hs22 hb12 hb22 hn2).mono ?_; rintro e w8 ⟨H, a3, n3, c3, rfl, hHH, hBB, hR8, hG8⟩
      have hZ8 := hZ7.quiet hG8
      have hG08 := hG7.trans hG8
      have HHH := Lib.hid hHH
      have HB3 : Hid (∀ k, (Value.slice a3 n3 c3).ownBlock = some k → w4.heap.size ≤ k) := Lib.hid fun k e => HV2.out k (hBB k e)
      have HR8 := Lib.hid hR8
      clear hHH hBB hR8 hG8 hG7 hZ7 hH7 hR7
      go_wp2_with (refine wpList_store_row rfl 46 _ _ rfl (w.heap.size + 1) #[.string H.1, .string H.2.1, .int .i64 H.2.2.1, .int .i64 H.2.2.2, .slice a3 n3 c3] rfl rfl 46 _ hZ8 (hi_info H _) rfl (hi_one H _ _ _) ?_)
      refine bodyPost_ret (results_cell_hi rfl _ _ (w.heap.size + 1) 46 #[.string H.1, .string H.2.1, .int .i64 H.2.2.1, .int .i64 H.2.2.2, .slice a3 n3 c3] (0, 0) _ rfl (hZ8.setRow _) Try.underlying46 rfl (hi_info H _)) rfl ?_
      exact ⟨H, a3, n3, c3, by rw [HX.out]; rfl, by rw [HX.out]; exact HHH.out, fun k e => by have := HB3.out k e; omega, by rw [HX.out]; exact Rd.grown HR8.out ((G.refl w8 (some (w.heap.size + 1))).setRow (.inr rfl) _) (fun k e hk => by cases e; have := HB3.out _ hk; omega), hG08.setRow (.inl (by omega)) _⟩
  · have k1' : (E != 0) = true := by simpa using k1
    have K1 := Lib.hid k1
    have HX := Lib.hid (HN.out k1)
    clear k1 HF HT HN
    go_wp2_with (refine wpList_store_row rfl 46 _ _ rfl (w.heap.size + 1) #[.string ⟨#[]⟩, .string ⟨#[]⟩, .int .i64 0, .int .i64 0, .slice none 0 0] rfl rfl 46 _ hZ (hi_info (⟨#[]⟩, ⟨#[]⟩, 0, 0) (.slice none 0 0)) rfl (hi_one (⟨#[]⟩, ⟨#[]⟩, 0, 0) _ _ _) ?_)
    refine bodyPost_ret (results_cell_hi rfl _ _ (w.heap.size + 1) 46 #[.string ⟨#[]⟩, .string ⟨#[]⟩, .int .i64 0, .int .i64 0, .slice none 0 0] (0, 0) _ rfl (hZ.setRow _) Try.underlying46 rfl (hi_info (⟨#[]⟩, ⟨#[]⟩, 0, 0) (.slice none 0 0))) rfl ?_
    rw [HX.out]
    exact ch_none K1.out h2 l2 (hG.setRow (.inl (by omega)) _)
end Go.Proofs.Ytbddcbbjmgepnaa

/- Generator: a reading. -/
namespace Go.Proofs.Ytbddcbbjmgepnaa
open Go.RowKit

def bnd2 (n : Int) : Prop := -2199023255552 ≤ n ∧ n ≤ 2199023255552
def rgB (x : Rg) : Prop := bnd2 x.1 ∧ Small x.2.1 ∧ bnd x.2.2.1 ∧ bnd x.2.2.2
def ReadingPost (s K : Nat) (w : World) (e : Ending) (w' : World) : Prop :=
  ∃ r : Rg, e = .returned (.agg (rgC r)) ∧ rgB r ∧ SB w' s (K + 12) ∧ G w w' (some s)
theorem rg_one (x : Rg) : (rgC x).all (·.oneCell') = true := by simp [rgC, Value.oneCell']
theorem reading_fin {w w3 : World} {s K : Nat} {r : Rg} (hs : s < w.heap.size) (hr : rgB r) (hSB : SB w3 s (K + 12)) (hG : G w w3 (some s)) :
    ReadingPost s K w (.returned (.agg (rgC r))) (w3.setRow w.heap.size (rgC r)) :=
  ⟨r, rfl, hr, hSB.setRow hs _, hG.setRow (.inl (Nat.le_refl _)) _⟩
end Go.Proofs.Ytbddcbbjmgepnaa

/- Hires: what a function that Close hands on does with a hire. Its regions are written by gench.py. -/
namespace Go.Proofs.Ytbddcbbjmgepnaa
open Go.RowKit

/-- The last leg comes in so. -/
def inL (l : List Lg) (r : Rg) : List Lg := match l[l.length - 1]? with
  | some x => l.set (l.length - 1) (x.1, x.2.1, r)
  | none => l
theorem inL_len (l : List Lg) (r : Rg) : (inL l r).length = l.length := by
  unfold inL
  split
  · simp
  · rfl
theorem LgOk.inL {l : List Lg} {r : Rg} (h : LgOk l) (hr : Small r.2.1) : LgOk (inL l r) := by
  unfold Go.Proofs.Ytbddcbbjmgepnaa.inL
  split
  · next x hx =>
    intro y hy
    rcases List.mem_or_eq_of_mem_set hy with hy | rfl
    · exact h y hy
    · have := h x (List.mem_of_getElem? hx)
      exact ⟨this.1, this.2.1, hr⟩
  · exact h
theorem G.setCells (b : Nat) : ∀ (vs : List Value) (o : Nat) (w : World), G w (w.setCells b o vs) (some b)
  | [], _, _ => G.refl _ _
  | v :: r, o, w => by
    rw [World.setCells]
    exact ((G.refl w (some b)).setCell (p := ⟨b, o, none⟩) (.inr rfl) v).trans (G.setCells b r (o + 1) _)
theorem OwnX.form {α : Type} {T : TypeId} {z : Nat} {c : α → Array Value} {w : World} {base : Nat} {v : Value} {l : List α} (h : OwnX T z c w base v l) (h0 : 0 < l.length) : ∃ g cap cur, v = .slice (some ⟨g, 0, none⟩) l.length cap ∧ Bk w g T cur ∧ base ≤ g := by
  rcases h.2 with ⟨rfl, h3⟩ | ⟨g, cap, cur, rfl, hb, hg, _⟩
  · omega
  · exact ⟨g, cap, cur, rfl, hg, hb⟩
theorem there_lg {w : World} {base g1 cap : Nat} {l : List Lg} {p : Lg} (h : OwnLg w base (.slice (some ⟨g1, 0, none⟩) l.length cap) l) (hp : l[l.length - 1]? = some p) : w.there g1 ((l.length - 1) * 9 + 5) 4 := by
  obtain ⟨g, cap', cur, e, hB, -⟩ := OwnX.form h (by have := (List.getElem?_eq_some_iff.1 hp).1; omega)
  cases e
  intro j hj
  refine ⟨?_, hB.free _⟩
  obtain ⟨u, hu⟩ : ∃ u, (lgC p).toList[5 + j]? = some u := ⟨_, List.getElem?_eq_getElem (by simp [lgC]; omega)⟩
  have := RdR.cell lgC_sz (Rd.of_owns h) (G.refl w none) hp (5 + j) u hu
  rw [← Nat.add_assoc, Nat.zero_add] at this
  rw [this]
  rfl
theorem own_inL {w : World} {base g1 cap : Nat} {l : List Lg} {p : Lg} (h : OwnLg w base (.slice (some ⟨g1, 0, none⟩) l.length cap) l) (hp : l[l.length - 1]? = some p) (r : Rg) :
    OwnLg (w.setCells g1 ((l.length - 1) * 9 + 5) (#[.int .i64 r.1, .string r.2.1, .int .i64 r.2.2.1, .int .i64 r.2.2.2] : Array Value).toList) base (.slice (some ⟨g1, 0, none⟩) l.length cap) (inL l r) := by
  have e : inL l r = l.set (l.length - 1) (p.1, p.2.1, r) := by unfold inL; rw [hp]
  have hk := (List.getElem?_eq_some_iff.1 hp).1
  show World.ownsRow _ _ _ _ _ (inL l r).length _
  rw [inL_len, e]
  generalize l.length - 1 = k at hp hk ⊢
  have hs : ∀ q : Lg, (l.set k q)[k]? = some q := fun q => by rw [List.getElem?_set_self hk]
  have h1 := OwnX.set lgC_sz h hp 5 (.int .i64 r.1) (by omega) (q := (p.1, p.2.1, (r.1, p.2.2.2))) rfl
  have h2 := OwnX.set lgC_sz h1 (hs _) 6 (.string r.2.1) (by omega) (q := (p.1, p.2.1, (r.1, r.2.1, p.2.2.2.2))) rfl
  rw [List.set_set] at h2
  have h3 := OwnX.set lgC_sz h2 (hs _) 7 (.int .i64 r.2.2.1) (by omega) (q := (p.1, p.2.1, (r.1, r.2.1, r.2.2.1, p.2.2.2.2.2))) rfl
  rw [List.set_set] at h3
  have h4 := OwnX.set lgC_sz h3 (hs _) 8 (.int .i64 r.2.2.2) (by omega) (q := (p.1, p.2.1, r)) rfl
  rw [List.set_set] at h4
  exact h4
theorem cf_close : ∀ (args : Array Value) (w : World), (callFunc 34 args).run Try.prog w = .ok (.enter 34 args) w := fun args w => by kernel_rfl
set_option maxRecDepth 100000 in
set_option maxHeartbeats 4000000 in
theorem close1_c (h : Hh) (l : List Lg) (r : Rg) (b : Nat) (A : World) (hB : Bk A b 50 (rgC r)) (h0 : 0 < l.length) (hn : l.length ≤ 1000) :
    ChFn 34 #[.pointer (some ⟨b, 0, none⟩)] h l h (inL l r) A := by
  intro w1 g base v1 hG hown hH hg hgb hbs
  have hb := hB.lt
  have hB1 := hB.quiet hG
  obtain ⟨g1, cap, cur, rfl, -, hg1⟩ := OwnX.form hown h0
  obtain ⟨p, hp⟩ : ∃ p, l[l.length - 1]? = some p := ⟨_, List.getElem?_eq_getElem (by omega)⟩
  have HP := Lib.hid hp
  have hne : g ≠ g1 := by omega
  have hnb : b ≠ g1 := by omega
  clear hp hB
  simp only [hiC, rgC] at hH hB1 ⊢
  go_enter Try.func34, Try.ntmps34
  have hH2 := hH.quiet ((G.refl w1 none).drew)
  have hB2 := hB1.quiet ((G.refl w1 none).drew)
  have HO2 := Lib.hid (OwnX.drew hown)
  have hG02 : G w1 w1.drew none := (G.refl w1 none).drew
  -- @REGION1
  refine wp_region_held_drew (S := (fun w' => w'.cell? ⟨g, 0, none⟩ = some (.string h.1) ∧ w'.cell? ⟨g, 1, none⟩ = some (.string h.2.1) ∧ w'.cell? ⟨g, 2, none⟩ = some (.int .i64 h.2.2.1) ∧ w'.cell? ⟨g, 3, none⟩ = some (.int .i64 h.2.2.2) ∧ w'.cell? ⟨g, 4, none⟩ = some (.slice (some ⟨g1, 0, none⟩) l.length cap) ∧ w'.cell? ⟨b, 0, none⟩ = some (.int .i64 r.1) ∧ w'.cell? ⟨b, 1, none⟩ = some (.string r.2.1) ∧ w'.cell? ⟨b, 2, none⟩ = some (.int .i64 r.2.2.1) ∧ w'.cell? ⟨b, 3, none⟩ = some (.int .i64 r.2.2.2))) (by kernel_rfl) ?_ (fun hHeld => ?_)
  · exact ⟨hH2.cell 0, hH2.cell 1, hH2.cell 2, hH2.cell 3, hH2.cell 4, hB2.cell 0, hB2.cell 1, hB2.cell 2, hB2.cell 3⟩
  refine wpAnyH_take (i := 0) (oi := { dst := some 3, op := Op.move (Operand.tmp 0), type := 77, pos := _, after := #[], guard := none }) (v := ?_) rfl (by kernel_rfl) (by kernel_rfl) (by kernel_rfl) (fun _ _ _ h => h) (Or.inl ⟨by rfl, ?_⟩) (by assumption) ?_
  rotate_left
  · (intro w hSw; obtain ⟨s0, s1, s2, s3, s4, s5, s6, s7, s8⟩ := hSw; (go_simp <;> with_reducible rfl))
  try simp only [Act.put, List.setIfInBounds_toArray, List.set_cons_zero, List.set_cons_succ]
  refine wpAnyH_take (i := 1) (oi := { dst := some 4, op := Op.nilCheck (Operand.tmp 3), type := 0, pos := _, after := #[{ on := 0, ground := Ground.data }], guard := none }) (v := ?_) rfl (by kernel_rfl) (by kernel_rfl) (by kernel_rfl) (fun _ _ _ h => h) (Or.inl ⟨by rfl, ?_⟩) (by assumption) ?_
  rotate_left
  · (intro w hSw; obtain ⟨s0, s1, s2, s3, s4, s5, s6, s7, s8⟩ := hSw; (go_simp <;> with_reducible rfl))
  try simp only [Act.put, List.setIfInBounds_toArray, List.set_cons_zero, List.set_cons_succ]
  refine wpAnyH_take (i := 2) (oi := { dst := some 5, op := Op.load 46 (Operand.tmp 4), type := 46, pos := _, after := #[{ on := 1, ground := Ground.data }], guard := none }) (v := ?_) rfl (by kernel_rfl) (by kernel_rfl) (by kernel_rfl) (fun _ _ _ h => h) (Or.inl ⟨by rfl, ?_⟩) (by assumption) ?_
  rotate_left
  · (intro w hSw; obtain ⟨s0, s1, s2, s3, s4, s5, s6, s7, s8⟩ := hSw; (go_simp <;> with_reducible rfl))
  try simp only [Act.put, List.setIfInBounds_toArray, List.set_cons_zero, List.set_cons_succ]
  refine wpAnyH_take (i := 4) (oi := { dst := some 7, op := Op.load 50 (Operand.tmp 1), type := 50, pos := _, after := #[], guard := none }) (v := ?_) rfl (by kernel_rfl) (by kernel_rfl) (by kernel_rfl) (fun _ _ _ h => h) (Or.inl ⟨by rfl, ?_⟩) (by assumption) ?_
  rotate_left
  · (intro w hSw; obtain ⟨s0, s1, s2, s3, s4, s5, s6, s7, s8⟩ := hSw; (go_simp <;> with_reducible rfl))
  try simp only [Act.put, List.setIfInBounds_toArray, List.set_cons_zero, List.set_cons_succ]
  refine wpAnyH_ready (rs := [3]) (by kernel_rfl) (by simp) ?_
  refine AllReadyH.cons (o := { dst := some 6, op := Op.call { callee := Callee.value (Operand.func 35), args := #[Operand.tmp 5], argTypes := #[46] }, type := 78, pos := _, after := #[{ on := 2, ground := Ground.data }], guard := none }) rfl (fun K hK => ?_) AllReadyH.nil
  go_simp
  refine (lastOf_c h g1 0 l.length cap _ h0 hn).mono ?_
  rintro e w3 ⟨rfl, hG3⟩
  have hH3 := hH2.quiet hG3
  have hB3 := hB2.quiet hG3
  have HO := Lib.hid (OwnX.quiet HO2.out hG3)
  have hG03 := hG02.trans hG3
  clear hG3
  refine hK.out _ _ ?_ (fun hHeld => ?_)
  · exact ⟨hH3.cell 0, hH3.cell 1, hH3.cell 2, hH3.cell 3, hH3.cell 4, hB3.cell 0, hB3.cell 1, hB3.cell 2, hB3.cell 3⟩
  clear hK K
  try simp only [Act.put, List.setIfInBounds_toArray, List.set_cons_zero, List.set_cons_succ]
  refine wpAnyH_take (i := 5) (oi := { dst := some 8, op := Op.nilCheck (Operand.tmp 6), type := 0, pos := _, after := #[{ on := 3, ground := Ground.data }, { on := 0, ground := Ground.phase }, { on := 1, ground := Ground.phase }, { on := 2, ground := Ground.phase }, { on := 3, ground := Ground.phase }, { on := 4, ground := Ground.phase }], guard := none }) (v := ?_) rfl (by kernel_rfl) (by kernel_rfl) (by kernel_rfl) (fun _ _ _ h => h) (Or.inl ⟨by rfl, ?_⟩) (by assumption) ?_
  rotate_left
  · (intro w hSw; obtain ⟨s0, s1, s2, s3, s4, s5, s6, s7, s8⟩ := hSw; (go_simp <;> with_reducible rfl))
  try simp only [Act.put, List.setIfInBounds_toArray, List.set_cons_zero, List.set_cons_succ]
  refine wpAnyH_take (i := 6) (oi := { dst := some 9, op := Op.fieldAddr 74 (Operand.tmp 8) 2, type := 0, pos := _, after := #[{ on := 5, ground := Ground.data }, { on := 0, ground := Ground.phase }, { on := 1, ground := Ground.phase }, { on := 2, ground := Ground.phase }, { on := 3, ground := Ground.phase }, { on := 4, ground := Ground.phase }], guard := none }) (v := ?_) rfl (by kernel_rfl) (by kernel_rfl) (by kernel_rfl) (fun _ _ _ h => h) (Or.inl ⟨by rfl, ?_⟩) (by assumption) ?_
  rotate_left
  · (intro w hSw; obtain ⟨s0, s1, s2, s3, s4, s5, s6, s7, s8⟩ := hSw; (go_simp <;> with_reducible rfl))
  try simp only [Act.put, List.setIfInBounds_toArray, List.set_cons_zero, List.set_cons_succ]
  refine wpAnyH_ready (rs := [7]) (by kernel_rfl) (by simp) ?_
  refine AllReadyH.cons (o := { dst := none, op := Op.store 50 (Operand.tmp 9) (Operand.tmp 7), type := 0, pos := _, after := #[{ on := 6, ground := Ground.data }, { on := 4, ground := Ground.data }, { on := 3, ground := Ground.chain }, { on := 0, ground := Ground.phase }, { on := 1, ground := Ground.phase }, { on := 2, ground := Ground.phase }, { on := 3, ground := Ground.phase }, { on := 4, ground := Ground.phase }], guard := none }) rfl (fun K hK => ?_) AllReadyH.nil
  refine st_wp rfl (wp_store_mid 50 _ _ rfl g1 ((l.length - 1) * 9 + 5) #[.int .i64 r.1, .string r.2.1, .int .i64 r.2.2.1, .int .i64 r.2.2.2] rfl rfl (there_lg HO.out HP.out) (rg_info r) (rg_one r) ?_)
  have hQ := own_inL HO.out HP.out r
  have hGs := G.setCells g1 (#[.int .i64 r.1, .string r.2.1, .int .i64 r.2.2.1, .int .i64 r.2.2.2] : Array Value).toList ((l.length - 1) * 9 + 5) w3
  have hH4 := hH3.grown hGs (fun e => hne (Option.some.inj e))
  have hB4 := hB3.grown hGs (fun e => hnb (Option.some.inj e))
  refine hK.out _ _ ?_ (fun hHeld => ?_)
  · exact ⟨hH4.cell 0, hH4.cell 1, hH4.cell 2, hH4.cell 3, hH4.cell 4, hB4.cell 0, hB4.cell 1, hB4.cell 2, hB4.cell 3⟩
  clear hK K
  try simp only [Act.put, List.setIfInBounds_toArray, List.set_cons_zero, List.set_cons_succ]
  refine wpAnyH_done (by kernel_rfl) ?_ _
  -- @END1
  go_wp2_with fail
  (try simp only [Exit.inBlock, Exit.then])
  refine bodyPost_end (results_none rfl _ _ _) rfl ?_
  exact ⟨rfl, _, hH4, Rd.of_owns hQ, fun k e => by cases e; exact hg1, (GS.of_G hG03).trans (GS.of_Gs hGs (.inr rfl))⟩
end Go.Proofs.Ytbddcbbjmgepnaa

/- Hires: Close, CloseOf. -/
namespace Go.Proofs.Ytbddcbbjmgepnaa
open Go.RowKit

set_option maxRecDepth 100000 in
set_option maxHeartbeats 4000000 in
theorem close_c (h : Hh) (v : Value) (l : List Lg) (r : Rg) (w : World) (hr : RdR w 9 lgC v l) (hl : LgOk l) (hs1 : Small h.1) (hs2 : Small h.2.1) (hb1 : bnd h.2.2.1) (hb2 : bnd h.2.2.2) (hn : l.length ≤ 1000) (hsr : Small r.2.1) :
    Calls Try.prog 13 #[.agg (hiC h v), .agg (rgC r)] w (ChPost (chE h l h (inL l r)) h (inL l r) w) := by
  have hH := ((Bk.new w 46 (hiC h v)).alloc (.cells (rgC r) 50)).alloc (.cells hiZ 46)
  have hB := (Bk.newAt (w := w.alloc (.cells (hiC h v) 46)) (b := w.heap.size + 1) (by simp) 50 (rgC r)).alloc (.cells hiZ 46)
  have hZ := Bk.newAt (w := (w.alloc (.cells (hiC h v) 46)).alloc (.cells (rgC r) 50)) (b := w.heap.size + 2) (by simp) 46 hiZ
  have hG := (((G.refl w none).alloc (.cells (hiC h v) 46)).alloc (.cells (rgC r) 50)).alloc (.cells hiZ 46)
  have hR := hr.quiet hG
  have hz2 := hZ.lt
  obtain ⟨a, cap, rfl, hcap, hm⟩ := RdR.form hr
  have HC := Lib.hid (fun (w' : World) (hB' : Bk w' (w.heap.size + 1) 50 (rgC r)) (hR' : RdR w' 9 lgC (.slice a l.length cap) l) =>
    changed_c 34 #[.pointer (some ⟨w.heap.size + 1, 0, none⟩)] h (.slice a l.length cap) l h (inL l r) w' cf_close (fun h0 => close1_c h l r (w.heap.size + 1) w' hB' h0 hn) hR' hl hs1 hs2 hb1 hb2 hn (hl.inL hsr) hs1 hs2 hb1 hb2 (by rw [inL_len]; exact hn))
  clear hr
  simp only [hiC, hiZ, rgC] at hH hG hR hZ hB hz2 HC ⊢
  go_enter Try.func13, Try.ntmps13
  go_upto_region 1 with fail
  generalize ((w.alloc (.cells #[.string h.1, .string h.2.1, .int .i64 h.2.2.1, .int .i64 h.2.2.2, .slice a l.length cap] 46)).alloc (.cells #[.int .i64 r.1, .string r.2.1, .int .i64 r.2.2.1, .int .i64 r.2.2.2] 50)).alloc (.cells #[.string ⟨#[]⟩, .string ⟨#[]⟩, .int .i64 0, .int .i64 0, .slice none 0 0] 46) = w2 at hG hH hR hZ hB hz2 ⊢
  go_wp2_with (refine wpList_load_row rfl 46 _ rfl w.heap.size rfl 46 #[.string h.1, .string h.2.1, .int .i64 h.2.2.1, .int .i64 h.2.2.2, .slice a l.length cap] (0, 0) _ hH Try.underlying46 rfl (hi_info h _) ?_)
  refine (HC.out w2 hB hR).mono ?_; rintro e w3 ⟨H, a3, n3, c3, rfl, hHH, hBB, hR3, hG3⟩
  have hZ3 := hZ.quiet hG3
  have hG03 := hG.trans hG3
  have HHH := Lib.hid hHH
  have HB3 := Lib.hid hBB
  have HR3 := Lib.hid hR3
  clear hHH hBB hR3 hG3 hG hZ hH hR hB HC
  go_wp2_with (refine wpList_store_row rfl 46 _ _ rfl (w.heap.size + 2) #[.string H.1, .string H.2.1, .int .i64 H.2.2.1, .int .i64 H.2.2.2, .slice a3 n3 c3] rfl rfl 46 _ hZ3 (hi_info H _) rfl (hi_one H _ _ _) ?_)
  refine bodyPost_ret (results_cell_hi rfl _ _ (w.heap.size + 2) 46 #[.string H.1, .string H.2.1, .int .i64 H.2.2.1, .int .i64 H.2.2.2, .slice a3 n3 c3] (0, 0) _ rfl (hZ3.setRow _) Try.underlying46 rfl (hi_info H _)) rfl ?_
  exact ⟨H, a3, n3, c3, rfl, HHH.out, fun k e => by have := HB3.out k e; omega, Rd.grown HR3.out ((G.refl w3 (some (w.heap.size + 2))).setRow (.inr rfl) _) (fun k e hk => by cases e; have := HB3.out _ hk; omega), hG03.setRow (.inl (by omega)) _⟩
end Go.Proofs.Ytbddcbbjmgepnaa

/- LaterCostsMore: mathematics. A hire of one leg; its bill when it comes back later. -/
namespace Go.Proofs.Ytbddcbbjmgepnaa
open Go.RowKit

def lmH : Hh := (⟨#[104, 49]⟩, ⟨#[97, 110, 110]⟩, 100, 1000)
def lmO : Rg := (100, ⟨#[115, 49]⟩, 0, 8)
def lmV : ByteArray := ⟨#[118, 49]⟩
def lmS : ByteArray := ⟨#[115, 49]⟩
def lmL (r : Rg) : List Lg := [(lmV, lmO, r)]
theorem lm0 : hiE lmH (lmL noIn) = 0 ∧ ioB (lmL noIn) = true := by decide +kernel
theorem lm_in (r : Rg) : inL (lmL noIn) r = lmL r := rfl
theorem lm_rg {t m f : Int} (h1 : 100 < t) (h2 : t ≤ 8000) (h3 : 0 ≤ m) (h4 : m ≤ 2500) (h5 : 0 ≤ f) (h6 : f ≤ 8) : rgE (t, lmS, m, f) = 0 := by
  have k : keyB lmS = true := by decide +kernel
  have a : momB t = true := by simp [momB]; omega
  have b : inB m 0 999999 = true := by simp [inB]; omega
  have c : inB f 0 8 = true := by simp [inB]; omega
  simp [rgE, k, a, b, c]
theorem lm_hi {t m f : Int} (h1 : 100 < t) (h2 : t ≤ 8000) (h3 : 0 ≤ m) (h4 : m ≤ 2500) (h5 : 0 ≤ f) (h6 : f ≤ 8) : hiE lmH (lmL (t, lmS, m, f)) = 0 ∧ ioB (lmL (t, lmS, m, f)) = false := by
  have k := lm_rg h1 h2 h3 h4 h5 h6
  have a1 : keyB lmH.1 = true := by decide +kernel
  have a2 : keyB lmH.2.1 = true := by decide +kernel
  have a3 : tE lmH.2.2.1 lmH.2.2.2 = 0 := by decide +kernel
  have a4 : keyB lmV = true := by decide +kernel
  have a5 : rgE lmO = 0 := by decide +kernel
  have a6 : beE lmH.2.2.1 none (lmV, lmO, t, lmS, m, f) = 0 := rfl
  have a7 : enE true (lmV, lmO, t, lmS, m, f) = 0 := by
    unfold enE
    rw [if_neg (show ¬ (lmV, lmO, t, lmS, m, f).2.2.1 = -1 by show ¬ t = -1; omega), if_pos k, if_neg (show ¬ (lmV, lmO, t, lmS, m, f).2.2.1 ≤ (lmV, lmO, t, lmS, m, f).2.1.1 by show ¬ t ≤ 100; omega)]
  constructor
  · unfold hiE
    rw [if_neg (by rw [a1]; simp), if_neg (by rw [a2]; simp), if_pos a3, if_neg (by simp [lmL]), if_neg (by simp [lmL])]
    unfold lmL lsE lgE
    rw [if_pos]
    · rfl
    · rw [if_neg (by show ¬ keyB lmV = false; rw [a4]; simp), if_pos (show rgE (lmV, lmO, t, lmS, m, f).2.1 = 0 from a5), if_pos a6]
      exact a7
  · show (t == -1) = false
    simp
    omega
theorem liS_add (ls : List Li) (k : ByteArray) (c : Int) : liS (liAdd ls k c) = liS ls + c := by
  unfold liAdd
  split
  · omega
  · simp [liS]
theorem liErr_add {ls : List Li} {k : ByteArray} {c : Int} (h : liErr ls = 0) (hk : keyB k = true) (h0 : -1000000000 ≤ c) (h1 : c ≤ 1000000000) : liErr (liAdd ls k c) = 0 := by
  unfold liAdd
  split
  · exact h
  · induction ls with
    | nil =>
      have b : inB c (-1000000000) 1000000000 = true := by simp [inB]; omega
      simp [liErr, hk, b]
      decide
    | cons x r ih =>
      unfold liErr at h
      simp only [List.cons_append]
      unfold liErr
      split at h
      · cases h
      split at h
      · cases h
      split at h
      · cases h
      · next p1 p2 p3 =>
        rw [if_neg p1, if_neg p2, if_neg p3]
        exact ih h
/-- What is due is no more than a line may be. -/
theorem lm_bill {x : De} {t m f : Int} (hx : deE x = 0) (h1 : 100 < t) (h2 : t ≤ 8000) (h3 : 0 ≤ m) (h4 : m ≤ 2500) (h5 : 0 ≤ f) (h6 : f ≤ 8) :
    biE x lmH (lmL (t, lmS, m, f)) [] = 0 ∧ liE (biL x lmH (lmL (t, lmS, m, f)) []) = 0 ∧ liS (biL x lmH (lmL (t, lmS, m, f)) []) = lcN x (max 0 (t - 1000)) + x.km * max 0 (m - x.free) + x.eighth * (8 - f) := by
  obtain ⟨e1, e2⟩ := lm_hi h1 h2 h3 h4 h5 h6
  obtain ⟨d0, d1, d2, d3, d4, d5, -⟩ := deE_ok hx
  have q1 : laN lmH (lmL (t, lmS, m, f)) = max 0 (t - 1000) := rfl
  have q2 : kmS (lmL (t, lmS, m, f)) = m := by
    show (m - 0 + 1000000) % 1000000 + 0 = m
    omega
  have q3 : miS (lmL (t, lmS, m, f)) = 8 - f := by
    show max 0 (8 - f) + 0 = 8 - f
    omega
  have q4 : tN lmH.2.2.1 lmH.2.2.2 = 1 := by decide +kernel
  have q5 : dcN x lmH (lmL (t, lmS, m, f)) = x.km * max 0 (m - x.free) := by unfold dcN; rw [q2, q4, Int.mul_one]
  have b1 : 0 ≤ lcN x (max 0 (t - 1000)) ∧ lcN x (max 0 (t - 1000)) ≤ 1000000000 := by
    unfold lcN
    split
    · omega
    · have n1 : 0 ≤ (max 0 (t - 1000) + 60 - 1) / 60 ∧ (max 0 (t - 1000) + 60 - 1) / 60 ≤ 117 := by omega
      have n2 : 0 ≤ (max 0 (t - 1000) + 1440 - 1) / 1440 := by omega
      have m1 := Int.mul_nonneg d4.1 n1.1
      have m2 : x.hour * ((max 0 (t - 1000) + 60 - 1) / 60) ≤ 1000000 * 117 := Int.mul_le_mul d4.2 n1.2 n1.1 (by omega)
      have m3 := Int.mul_nonneg d5.1 n2
      omega
  have b2 : 0 ≤ x.km * max 0 (m - x.free) ∧ x.km * max 0 (m - x.free) ≤ 1000000000 := by
    refine ⟨Int.mul_nonneg d1.1 (by omega), ?_⟩
    have : x.km * max 0 (m - x.free) ≤ 100000 * 2500 := Int.mul_le_mul d1.2 (by omega) (by omega) (by omega)
    omega
  have b3 : 0 ≤ x.eighth * (8 - f) ∧ x.eighth * (8 - f) ≤ 1000000000 := by
    refine ⟨Int.mul_nonneg d2.1 (by omega), ?_⟩
    have : x.eighth * (8 - f) ≤ 100000 * 8 := Int.mul_le_mul d2.2 (by omega) (by omega) (by omega)
    omega
  have hB : billL x lmH (lmL (t, lmS, m, f)) [] = liAdd (liAdd (liAdd [] kLate (lcN x (max 0 (t - 1000)))) kDist (x.km * max 0 (m - x.free))) kFuel (x.eighth * (8 - f)) := by
    unfold billL
    rw [q1, q3, q5]
  have hL : liE (billL x lmH (lmL (t, lmS, m, f)) []) = 0 := by
    rw [hB]
    unfold liE
    rw [if_neg]
    · exact liErr_add (liErr_add (liErr_add rfl (by decide +kernel) (by omega) b1.2) (by decide +kernel) (by omega) b2.2) (by decide +kernel) (by omega) b3.2
    · have := (liAdd_len [] kLate (lcN x (max 0 (t - 1000)))).2
      have := (liAdd_len (liAdd [] kLate (lcN x (max 0 (t - 1000)))) kDist (x.km * max 0 (m - x.free))).2
      have := (liAdd_len (liAdd (liAdd [] kLate (lcN x (max 0 (t - 1000)))) kDist (x.km * max 0 (m - x.free))) kFuel (x.eighth * (8 - f))).2
      simp at *
      omega
  have hC : cbE x lmH (lmL (t, lmS, m, f)) [] = 0 := by
    unfold cbE
    rw [if_pos hx, if_pos e1, if_pos (show liE [] = 0 from rfl), if_neg (by rw [e2]; simp)]
  have hE : biE x lmH (lmL (t, lmS, m, f)) [] = 0 := by unfold biE; rw [if_pos hC, hL]
  have hI : biL x lmH (lmL (t, lmS, m, f)) [] = billL x lmH (lmL (t, lmS, m, f)) [] := by unfold biL; rw [if_pos hE]
  refine ⟨hE, by rw [hI]; exact hL, ?_⟩
  rw [hI, hB, liS_add, liS_add, liS_add]
  show 0 + _ + _ + _ = _
  omega
theorem lcN_mono {x : De} (hx : deE x = 0) {a b : Int} (h0 : 0 ≤ a) (h : a ≤ b) : lcN x a ≤ lcN x b := by
  obtain ⟨-, -, -, -, d4, d5, -⟩ := deE_ok hx
  unfold lcN
  split
  · split
    · omega
    · have m1 := Int.mul_nonneg d4.1 (show 0 ≤ (b + 60 - 1) / 60 by omega)
      have m2 := Int.mul_nonneg d5.1 (show 0 ≤ (b + 1440 - 1) / 1440 by omega)
      omega
  · rw [if_neg (by omega)]
    have m1 := Int.mul_le_mul_of_nonneg_left (show (a + 60 - 1) / 60 ≤ (b + 60 - 1) / 60 by omega) d4.1
    have m2 := Int.mul_le_mul_of_nonneg_left (show (a + 1440 - 1) / 1440 ≤ (b + 1440 - 1) / 1440 by omega) d5.1
    omega
theorem lm_less {x : De} (hx : deE x = 0) {t m f t2 m2 f2 : Int} (h1 : t ≤ t2) (h2 : m ≤ m2) (h3 : f2 ≤ f) :
    lcN x (max 0 (t - 1000)) + x.km * max 0 (m - x.free) + x.eighth * (8 - f) ≤ lcN x (max 0 (t2 - 1000)) + x.km * max 0 (m2 - x.free) + x.eighth * (8 - f2) := by
  obtain ⟨-, d1, d2, -⟩ := deE_ok hx
  have m1 := lcN_mono hx (show 0 ≤ max 0 (t - 1000) by omega) (show max 0 (t - 1000) ≤ max 0 (t2 - 1000) by omega)
  have m2' := Int.mul_le_mul_of_nonneg_left (show max 0 (m - x.free) ≤ max 0 (m2 - x.free) by omega) d1.1
  have m3 := Int.mul_le_mul_of_nonneg_left (show 8 - f ≤ 8 - f2 by omega) d2.1
  omega
end Go.Proofs.Ytbddcbbjmgepnaa

/- A region that draws its order, told operation by operation: each one's value is told once, whatever the order. No program. -/
namespace Go.Proofs.Ytbddcbbjmgepnaa
open Go.RowKit

/-- What an operation left. -/
def valOf (a : Act) (o : Oper) : Value := match o.dst with | some d => a.tmps.getD d undef | none => undef
/-- Values put where the operations put theirs. -/
def putAll (f : Nat → Value) : Nat → List Oper → Act → Act
  | _, [], a => a
  | i, o :: r, a => putAll f (i + 1) r (a.put o.dst (f i))
def dstsOf (l : List Oper) : List Nat := l.filterMap (·.dst)
/-- No guards; who is waited for stands ahead; each writes a slot of its own, that there is. -/
def stepsB (md : Region.Mode) (l : List Oper) (n : Nat) : Bool :=
  (l.zipIdx.all fun p => p.1.guard.isNone && (p.1.after.all fun e => !Region.binds md e || decide (e.on < p.2)) && (match p.1.dst with | some d => decide (d < n) | none => true)) && decide (dstsOf l).Nodup
/-- Is number j waited for by o? -/
def predB (md : Region.Mode) (o : Oper) (j : Nat) : Bool := o.after.any fun e => Region.binds md e && e.on == j
def Same (ops : List Oper) (a0 a : Act) : Prop := a.defers = a0.defers ∧ a.tmps.size = a0.tmps.size ∧ ∀ d, d ∉ dstsOf ops → a.tmps.getD d undef = a0.tmps.getD d undef
theorem put_defers (a : Act) (d : Option Tmp) (v : Value) : (a.put d v).defers = a.defers := by cases d <;> rfl
theorem put_size (a : Act) (d : Option Tmp) (v : Value) : (a.put d v).tmps.size = a.tmps.size := by cases d <;> simp [Act.put]
theorem put_getD_ne (a : Act) (d : Option Tmp) (v : Value) (k : Nat) (h : d ≠ some k) : (a.put d v).tmps.getD k undef = a.tmps.getD k undef := by
  cases d with
  | none => rfl
  | some d =>
    have : d ≠ k := fun e => h (by rw [e])
    simp [Act.put, this]
theorem put_getD (a : Act) (d : Nat) (v : Value) (h : d < a.tmps.size) : (a.put (some d) v).tmps.getD d undef = v := by
  simp [Act.put, h]
section
variable {P : Program} {Q : Exit → Act → World → Prop} {md : Region.Mode}
/-- What an operation is asked for. -/
def StepOk (P : Program) (md : Region.Mode) (Q : Exit → Act → World → Prop) (ops : List Oper) (a0 : Act) (J : Nat → World → Prop) (V : Nat → Value → World → Prop) (Kp : World → World → Prop) (i : Nat) (o : Oper) : Prop :=
  ∀ n a w, J n w → Same ops a0 a → (∀ j oj, predB md o j = true → ops[j]? = some oj → V j (valOf a oj) w) → ∀ K : Act → World → Prop, (∀ v w', (o.dst = none → v = undef) → V i v w' → J (n + 1) w' → Kp w w' → K (a.put o.dst v) w') → Oper.wp P o a w K Q
def AllOk (P : Program) (md : Region.Mode) (Q : Exit → Act → World → Prop) (ops : List Oper) (a0 : Act) (J : Nat → World → Prop) (V : Nat → Value → World → Prop) (Kp : World → World → Prop) : Nat → List Oper → Prop
  | _, [] => True
  | i, o :: r => StepOk P md Q ops a0 J V Kp i o ∧ AllOk P md Q ops a0 J V Kp (i + 1) r
theorem allOk_at {ops : List Oper} {a0 : Act} {J : Nat → World → Prop} {V : Nat → Value → World → Prop} {Kp : World → World → Prop} : ∀ (l : List Oper) (b : Nat), AllOk P md Q ops a0 J V Kp b l → ∀ (i : Nat) (o : Oper), l[i]? = some o → StepOk P md Q ops a0 J V Kp (b + i) o
  | [], _, _, i, o, h => by simp at h
  | x :: r, b, hA, i, o, h => by
    cases i with
    | zero => obtain rfl : x = o := by simpa using h
              exact hA.1
    | succ i =>
      have := allOk_at r (b + 1) hA.2 i o (by simpa using h)
      rwa [show b + 1 + i = b + (i + 1) by omega] at this
theorem dst_mem {l : List Oper} {i : Nat} {o : Oper} {d : Nat} (h : l[i]? = some o) (hd : o.dst = some d) : d ∈ dstsOf l :=
  List.mem_filterMap.2 ⟨o, List.mem_of_getElem? h, hd⟩
theorem dst_inj : ∀ {l : List Oper}, (dstsOf l).Nodup → ∀ {i j : Nat} {o p : Oper} {d : Nat}, l[i]? = some o → l[j]? = some p → o.dst = some d → p.dst = some d → i = j
  | [], _, i, _, _, _, _, h, _, _, _ => by simp at h
  | x :: r, hn, i, j, o, p, d, hi, hj, ho, hp => by
    have hr : (dstsOf r).Nodup := by
      unfold dstsOf at hn ⊢
      rw [List.filterMap_cons] at hn
      split at hn
      · exact hn
      · exact (List.nodup_cons.1 hn).2
    have hx : ∀ {k : Nat} {q : Oper}, x.dst = some d → r[k]? = some q → q.dst = some d → False := fun {k q} h1 h2 h3 => by
      unfold dstsOf at hn
      rw [List.filterMap_cons, h1] at hn
      exact (List.nodup_cons.1 hn).1 (dst_mem h2 h3)
    cases i with
    | zero =>
      obtain rfl : x = o := by simpa using hi
      cases j with
      | zero => rfl
      | succ j => exact (hx ho (by simpa using hj) hp).elim
    | succ i =>
      cases j with
      | zero =>
        obtain rfl : x = p := by simpa using hj
        exact (hx hp (by simpa using hi) ho).elim
      | succ j => exact congrArg (· + 1) (dst_inj hr (i := i) (j := j) (by simpa using hi) (by simpa using hj) ho hp)
theorem putAll_same (f : Nat → Value) : ∀ (l : List Oper) (i : Nat) (a : Act), (putAll f i l a).defers = a.defers ∧ (putAll f i l a).tmps.size = a.tmps.size ∧ ∀ d, d ∉ dstsOf l → (putAll f i l a).tmps.getD d undef = a.tmps.getD d undef
  | [], _, a => ⟨rfl, rfl, fun _ _ => rfl⟩
  | o :: r, i, a => by
    obtain ⟨h1, h2, h3⟩ := putAll_same f r (i + 1) (a.put o.dst (f i))
    refine ⟨h1.trans (put_defers _ _ _), h2.trans (put_size _ _ _), fun d hd => ?_⟩
    have hd2 : d ∉ dstsOf r := fun h => hd (by
      unfold dstsOf at h ⊢
      rw [List.filterMap_cons]
      split
      · exact h
      · exact List.mem_cons_of_mem _ h)
    refine (h3 d hd2).trans (put_getD_ne _ _ _ _ fun e => hd ?_)
    unfold dstsOf
    rw [List.filterMap_cons, e]
    exact List.mem_cons_self ..
theorem putAll_at (f : Nat → Value) : ∀ (l : List Oper) (b : Nat) (a : Act), (dstsOf l).Nodup → (∀ d ∈ dstsOf l, d < a.tmps.size) → ∀ (i : Nat) (o : Oper) (d : Nat), l[i]? = some o → o.dst = some d → (putAll f b l a).tmps.getD d undef = f (b + i)
  | [], _, _, _, _, i, o, d, h, _ => by simp at h
  | x :: r, b, a, hn, hlt, i, o, d, h, hd => by
    have hr : (dstsOf r).Nodup := by
      unfold dstsOf at hn ⊢
      rw [List.filterMap_cons] at hn
      split at hn
      · exact hn
      · exact (List.nodup_cons.1 hn).2
    have hltr : ∀ d ∈ dstsOf r, d < (a.put x.dst (f b)).tmps.size := fun d hd => by
      rw [put_size]
      refine hlt d ?_
      unfold dstsOf at hd ⊢
      rw [List.filterMap_cons]
      split
      · exact hd
      · exact List.mem_cons_of_mem _ hd
    cases i with
    | zero =>
      obtain rfl : x = o := by simpa using h
      have hnd : d ∉ dstsOf r := fun hm => by
        unfold dstsOf at hn
        rw [List.filterMap_cons, hd] at hn
        exact (List.nodup_cons.1 hn).1 hm
      show (putAll f (b + 1) r (a.put x.dst (f b))).tmps.getD d undef = f b
      rw [(putAll_same f r (b + 1) _).2.2 d hnd, hd]
      exact put_getD _ _ _ (hlt d (dst_mem (l := x :: r) (i := 0) rfl hd))
    | succ i =>
      have := putAll_at f r (b + 1) (a.put x.dst (f b)) hr hltr i o d (by simpa using h) hd
      rw [show b + 1 + i = b + (i + 1) by omega] at this
      exact this
theorem act_ext {a b : Act} (h1 : a.defers = b.defers) (h2 : a.tmps.size = b.tmps.size) (h3 : ∀ d, a.tmps.getD d undef = b.tmps.getD d undef) : a = b := by
  obtain ⟨t, d⟩ := a
  obtain ⟨t', d'⟩ := b
  dsimp only at h1 h2 h3
  subst h1
  congr 1
  apply Array.ext h2
  intro i hi hj
  have := h3 i
  simpa [hi, hj] using this
theorem act_putAll {ops : List Oper} {a0 a : Act} (hn : (dstsOf ops).Nodup) (hlt : ∀ d ∈ dstsOf ops, d < a0.tmps.size) (h : Same ops a0 a) : a = putAll (fun i => match ops[i]? with | some o => valOf a o | none => undef) 0 ops a0 := by
  obtain ⟨h1, h2, h3⟩ := h
  obtain ⟨k1, k2, k3⟩ := putAll_same (fun i => match ops[i]? with | some o => valOf a o | none => undef) ops 0 a0
  refine act_ext (h1.trans k1.symm) (h2.trans k2.symm) fun d => ?_
  by_cases hd : d ∈ dstsOf ops
  · obtain ⟨o, ho, hod⟩ := List.mem_filterMap.1 hd
    obtain ⟨i, hi⟩ := List.getElem?_of_mem ho
    rw [putAll_at _ ops 0 a0 hn hlt i o d hi hod, Nat.zero_add]
    simp only [hi]
    unfold valOf
    rw [hod]
  · rw [h3 d hd, k3 d hd]
theorem count_set (listed : Array Bool) (i : Nat) (h : listed.getD i true = false) : (listed.setIfInBounds i true).toList.countP (fun b => !b) + 1 = listed.toList.countP (fun b => !b) := by
  have hi : i < listed.size := by
    rcases Nat.lt_or_ge i listed.size with h' | h'
    · exact h'
    · simp [Array.getElem?_eq_none h'] at h
  have hv : listed[i] = false := by simpa [hi] using h
  rw [Array.toList_setIfInBounds, List.countP_set (by simpa using hi)]
  have hp : 0 < listed.toList.countP (fun b => !b) := List.countP_pos_iff.2 ⟨listed[i], by simp, by simp [hv]⟩
  have e : listed.toList[i]'(by simpa using hi) = false := by simpa using hv
  rw [e]
  simp only [Bool.not_false, Bool.not_true, if_true, Bool.false_eq_true, if_false]
  omega
/-- The law. -/
theorem wpAny_steps {l : List Oper} {a0 : Act} (J : Nat → World → Prop) (V : Nat → Value → World → Prop) (Kp : World → World → Prop) (n : Nat) (hn : a0.tmps.size = n) (hB : stepsB md l n = true)
    (keep : ∀ i v w w', Kp w w' → V i v w → V i v w') (step : AllOk P md Q l a0 J V Kp 0 l)
    (fin : ∀ (f : Nat → Value) w, J l.length w → (∀ i, i < l.length → V i (f i) w) → Q .normal (putAll f 0 l a0) w) :
    ∀ (fuel : Nat) (listed : Array Bool) (a : Act) (w : World), listed.size = l.length → listed.toList.countP (fun b => !b) = fuel → Same l a0 a → J (l.length - fuel) w → (∀ i o, l[i]? = some o → listed.getD i true = true → V i (valOf a o) w) → wpAny P md l.toArray Q fuel listed a w := by
  unfold stepsB at hB
  rw [Bool.and_eq_true, decide_eq_true_iff, List.all_eq_true] at hB
  obtain ⟨hB1, hnd⟩ := hB
  have hat : ∀ (i : Nat) (o : Oper), l[i]? = some o → o.guard = none ∧ (∀ e ∈ o.after, Region.binds md e = true → e.on < i) ∧ ∀ d, o.dst = some d → d < n := fun i o h => by
    have := hB1 (o, i) (List.mem_zipIdx_iff_getElem?.2 (by simpa using h))
    simp only [Bool.and_eq_true, Array.all_eq_true', Bool.or_eq_true, Bool.not_eq_true', decide_eq_true_eq] at this
    obtain ⟨⟨h1, h2⟩, h3⟩ := this
    refine ⟨Option.isNone_iff_eq_none.1 h1, fun e he hb => ?_, fun d hd => ?_⟩
    · rcases h2 e he with h | h
      · rw [hb] at h; cases h
      · exact h
    · rw [hd] at h3
      simpa using h3
  have hlt : ∀ d ∈ dstsOf l, d < a0.tmps.size := fun d hd => by
    obtain ⟨o, ho, hod⟩ := List.mem_filterMap.1 hd
    obtain ⟨i, hi⟩ := List.getElem?_of_mem ho
    rw [hn]
    exact (hat i o hi).2.2 d hod
  have done : ∀ (listed : Array Bool) (a : Act) (w : World), listed.size = l.length → (∀ i, i < l.length → listed.getD i true = true) → Same l a0 a → J l.length w → (∀ i o, l[i]? = some o → listed.getD i true = true → V i (valOf a o) w) → Q .normal a w := by
    intro listed a w hs hall hsame hJ hV
    rw [act_putAll hnd hlt hsame]
    refine fin _ w hJ fun i hi => ?_
    have hg : l[i]? = some l[i] := List.getElem?_eq_getElem hi
    rw [hg]
    exact hV i _ hg (hall i hi)
  have alls : ∀ (listed : Array Bool), Region.ready md l.toArray listed = [] → ∀ i, i < l.length → listed.getD i true = true := by
    intro listed hr i
    induction i using Nat.strongRecOn with
    | ind i ih =>
      intro hi
      cases hb : listed.getD i true with
      | true => rfl
      | false =>
        exfalso
        have hg : l[i]? = some l[i] := List.getElem?_eq_getElem hi
        have hm : i ∈ Region.ready md l.toArray listed := mem_ready.2 ⟨hb, l[i], by simp, fun e he hbd => by
          have hlt := (hat i _ hg).2.1 e he hbd
          have h1 := ih e.on hlt (by omega)
          have h2 : i < listed.size := by
            rcases Nat.lt_or_ge i listed.size with h' | h'
            · exact h'
            · simp [Array.getElem?_eq_none h'] at hb
          have h3 : e.on < listed.size := by omega
          simpa [h3] using h1⟩
        rw [hr] at hm
        cases hm
  intro fuel
  induction fuel with
  | zero =>
    intro listed a w hs hc hsame hJ hV
    have hall : ∀ i, i < l.length → listed.getD i true = true := fun i hi => by
      cases hb : listed.getD i true with
      | true => rfl
      | false => have := count_set listed i hb; omega
    refine ⟨?_, done listed a w hs hall hsame hJ hV⟩
    refine List.eq_nil_iff_forall_not_mem.2 fun i hi => ?_
    obtain ⟨h1, o, h2, _⟩ := mem_ready.1 hi
    have h3 : i < l.length := by
      have := (Array.getElem?_eq_some_iff.1 h2).1
      simpa using this
    rw [hall i h3] at h1
    cases h1
  | succ fuel ih =>
    intro listed a w hs hc hsame hJ hV
    have hcl : listed.toList.countP (fun b => !b) ≤ l.length := by
      have := List.countP_le_length (p := fun b => !b) (l := listed.toList)
      simpa [hs] using this
    refine ⟨fun hr => ?_, fun i hi => ?_⟩
    · have hall := alls listed hr
      exfalso
      have h0 : listed.toList.countP (fun b => !b) = 0 := List.countP_eq_zero.2 fun b hb => by
        obtain ⟨k, hk, rfl⟩ := List.getElem_of_mem hb
        have hk' : k < listed.size := by simpa using hk
        have := hall k (by omega)
        simp [hk'] at this
        simp [this]
      omega
    · obtain ⟨hun, o, ho, hafter⟩ := mem_ready.1 hi
      have hol : l[i]? = some o := by simpa using ho
      obtain ⟨hg, hord, hd⟩ := hat i o hol
      have hil : i < listed.size := by
        rcases Nat.lt_or_ge i listed.size with h' | h'
        · exact h'
        · simp [Array.getElem?_eq_none h'] at hun
      refine wpOp_step ho fun K' hK => ?_
      rw [if_pos (by simp [Region.wanted, hg])]
      have hst := allOk_at l 0 step i o hol
      rw [Nat.zero_add] at hst
      refine hst (l.length - (fuel + 1)) a w hJ hsame (fun j oj hp hj => ?_) K' (fun v w' hvu hv hJ' hkp => hK _ _ ?_)
      · unfold predB at hp
        rw [Array.any_eq_true'] at hp
        obtain ⟨e, he, h2⟩ := hp
        rw [Bool.and_eq_true, beq_iff_eq] at h2
        obtain ⟨h2, rfl⟩ := h2
        refine hV e.on oj hj ?_
        have h3 := hafter e he h2
        have h4 : e.on < listed.size := by have := hord e he h2; omega
        simpa [h4] using h3
      · refine ih (listed.setIfInBounds i true) (a.put o.dst v) w' (by simpa using hs) (by have := count_set listed i hun; omega) ?_ ?_ ?_
        · obtain ⟨s1, s2, s3⟩ := hsame
          refine ⟨(put_defers _ _ _).trans s1, (put_size _ _ _).trans s2, fun d hdn => ?_⟩
          rw [put_getD_ne _ _ _ _ (fun e => hdn (dst_mem hol e))]
          exact s3 d hdn
        · rw [show l.length - fuel = l.length - (fuel + 1) + 1 by omega]
          exact hJ'
        · intro j oj hj hl
          by_cases hij : i = j
          · subst hij
            rw [hol] at hj
            obtain rfl := Option.some.inj hj
            cases hod : o.dst with
            | none =>
              have : valOf (a.put none v) o = undef := by unfold valOf; rw [hod]
              rw [this, ← hvu hod]
              exact hv
            | some d =>
              have : valOf (a.put (some d) v) o = v := by
                unfold valOf
                rw [hod]
                exact put_getD a d v (by rw [hsame.2.1, hn]; exact hd d hod)
              rw [this]
              exact hv
          · rw [getD_set_ne true hij] at hl
            have hold := keep j _ w w' hkp (hV j oj hj hl)
            have : valOf (a.put o.dst v) oj = valOf a oj := by
              unfold valOf
              cases hod : oj.dst with
              | none => rfl
              | some d =>
                exact put_getD_ne _ _ _ _ fun e => hij (dst_inj hnd hol hj e hod)
            rw [this]
            exact hold
end
end Go.Proofs.Ytbddcbbjmgepnaa

/- Hires: Start, StartOf. -/
namespace Go.Proofs.Ytbddcbbjmgepnaa
open Go.RowKit

theorem RdR.oneLg {w : World} {g : Nat} {b : Lg} (h : Bk w g 74 (lgC b)) : RdR w 9 lgC (.slice (some ⟨g, 0, none⟩) 1 1) [b] := h.rd 9 1 rfl (by omega)
theorem openLeg_l (s : ByteArray) (r : Rg) (w : World) : Calls Try.prog 32 #[.string s, .agg #[.int .i64 r.1, .string r.2.1, .int .i64 r.2.2.1, .int .i64 r.2.2.2]] w fun e w' => e = .returned (.agg #[.string s, .int .i64 r.1, .string r.2.1, .int .i64 r.2.2.1, .int .i64 r.2.2.2, .int .i64 (-1), .string ⟨#[]⟩, .int .i64 0, .int .i64 0]) ∧ G w w' none := openLeg_c s r w
set_option maxRecDepth 100000 in
set_option maxHeartbeats 4000000 in
theorem start_c (h : Hh) (s : ByteArray) (r : Rg) (w : World) (hs : Small s) (hsr : Small r.2.1) (hs1 : Small h.1) (hs2 : Small h.2.1) (hb1 : bnd h.2.2.1) (hb2 : bnd h.2.2.2) :
    Calls Try.prog 12 #[.string h.1, .string h.2.1, .agg #[.int .i64 h.2.2.1, .int .i64 h.2.2.2], .string s, .agg (rgC r)] w
      (MadePost h [(s, r, noIn)] (fun k => w.heap.size ≤ k) w) := by
  have hb0 : LgOk [(s, r, noIn)] := fun x hx => by
    obtain rfl := List.mem_singleton.1 hx
    exact ⟨hs, hsr, by show Small ⟨#[]⟩; unfold Small; decide⟩
  have hWi := ((Bk.new w 27 #[.int .i64 h.2.2.1, .int .i64 h.2.2.2]).alloc (.cells (rgC r) 50)).alloc (.cells hiZ 46)
  have hRe := (Bk.newAt (w := w.alloc (.cells #[.int .i64 h.2.2.1, .int .i64 h.2.2.2] 27)) (b := w.heap.size + 1) (by simp) 50 (rgC r)).alloc (.cells hiZ 46)
  have hZ := Bk.newAt (w := (w.alloc (.cells #[.int .i64 h.2.2.1, .int .i64 h.2.2.2] 27)).alloc (.cells (rgC r) 50)) (b := w.heap.size + 2) (by simp) 46 hiZ
  have hG := (((G.refl w none).alloc (.cells #[.int .i64 h.2.2.1, .int .i64 h.2.2.2] 27)).alloc (.cells (rgC r) 50)).alloc (.cells hiZ 46)
  simp only [rgC, hiZ, hiC] at hWi hRe hZ hG ⊢
  go_enter Try.func12, Try.ntmps12
  go_upto_region 1 with fail
  generalize ((w.alloc (.cells #[.int .i64 h.2.2.1, .int .i64 h.2.2.2] 27)).alloc (.cells #[.int .i64 r.1, .string r.2.1, .int .i64 r.2.2.1, .int .i64 r.2.2.2] 50)).alloc (.cells #[.string ⟨#[]⟩, .string ⟨#[]⟩, .int .i64 0, .int .i64 0, .slice none 0 0] 46) = w2 at hWi hRe hZ hG ⊢
  -- @REGION
  have hWi3 := hWi.quiet ((G.refl w2 none).drew)
  have hRe3 := hRe.quiet ((G.refl w2 none).drew)
  have hZ3 := hZ.quiet ((G.refl w2 none).drew)
  have hG3 := hG.drew
  clear hWi hRe hZ hG
  refine wp_region_held_drew (S := (fun w' => w'.cell? ⟨w.heap.size, 0, none⟩ = some (.int .i64 h.2.2.1) ∧ w'.cell? ⟨w.heap.size, 1, none⟩ = some (.int .i64 h.2.2.2) ∧ w'.cell? ⟨w.heap.size + 1, 0, none⟩ = some (.int .i64 r.1) ∧ w'.cell? ⟨w.heap.size + 1, 1, none⟩ = some (.string r.2.1) ∧ w'.cell? ⟨w.heap.size + 1, 2, none⟩ = some (.int .i64 r.2.2.1) ∧ w'.cell? ⟨w.heap.size + 1, 3, none⟩ = some (.int .i64 r.2.2.2))) (by kernel_rfl) ?_ (fun hHeld => ?_)
  · exact ⟨hWi3.cell 0, hWi3.cell 1, hRe3.cell 0, hRe3.cell 1, hRe3.cell 2, hRe3.cell 3⟩
  refine wpAnyH_take (i := 0) (oi := { dst := some 12, op := Op.move (Operand.tmp 0), type := 9, pos := _, after := #[], guard := none }) (v := ?_) rfl (by kernel_rfl) (by kernel_rfl) (by kernel_rfl) (fun _ _ _ h => h) (Or.inl ⟨by rfl, ?_⟩) (by assumption) ?_
  rotate_left
  · (intro w hSw; obtain ⟨s0, s1, s2, s3, s4, s5⟩ := hSw; (go_simp <;> with_reducible rfl))
  try simp only [Act.put, List.setIfInBounds_toArray, List.set_cons_zero, List.set_cons_succ]
  refine wpAnyH_take (i := 1) (oi := { dst := some 13, op := Op.move (Operand.tmp 1), type := 9, pos := _, after := #[], guard := none }) (v := ?_) rfl (by kernel_rfl) (by kernel_rfl) (by kernel_rfl) (fun _ _ _ h => h) (Or.inl ⟨by rfl, ?_⟩) (by assumption) ?_
  rotate_left
  · (intro w hSw; obtain ⟨s0, s1, s2, s3, s4, s5⟩ := hSw; (go_simp <;> with_reducible rfl))
  try simp only [Act.put, List.setIfInBounds_toArray, List.set_cons_zero, List.set_cons_succ]
  refine wpAnyH_take (i := 2) (oi := { dst := some 14, op := Op.load 27 (Operand.tmp 7), type := 27, pos := _, after := #[], guard := none }) (v := ?_) rfl (by kernel_rfl) (by kernel_rfl) (by kernel_rfl) (fun _ _ _ h => h) (Or.inl ⟨by rfl, ?_⟩) (by assumption) ?_
  rotate_left
  · (intro w hSw; obtain ⟨s0, s1, s2, s3, s4, s5⟩ := hSw; (go_simp <;> with_reducible rfl))
  try simp only [Act.put, List.setIfInBounds_toArray, List.set_cons_zero, List.set_cons_succ]
  refine wpAnyH_take (i := 3) (oi := { dst := some 15, op := Op.move (Operand.tmp 3), type := 9, pos := _, after := #[], guard := none }) (v := ?_) rfl (by kernel_rfl) (by kernel_rfl) (by kernel_rfl) (fun _ _ _ h => h) (Or.inl ⟨by rfl, ?_⟩) (by assumption) ?_
  rotate_left
  · (intro w hSw; obtain ⟨s0, s1, s2, s3, s4, s5⟩ := hSw; (go_simp <;> with_reducible rfl))
  try simp only [Act.put, List.setIfInBounds_toArray, List.set_cons_zero, List.set_cons_succ]
  refine wpAnyH_take (i := 4) (oi := { dst := some 16, op := Op.load 50 (Operand.tmp 9), type := 50, pos := _, after := #[], guard := none }) (v := ?_) rfl (by kernel_rfl) (by kernel_rfl) (by kernel_rfl) (fun _ _ _ h => h) (Or.inl ⟨by rfl, ?_⟩) (by assumption) ?_
  rotate_left
  · (intro w hSw; obtain ⟨s0, s1, s2, s3, s4, s5⟩ := hSw; (go_simp <;> with_reducible rfl))
  try simp only [Act.put, List.setIfInBounds_toArray, List.set_cons_zero, List.set_cons_succ]
  refine wpAnyH_ready (rs := [5]) (by kernel_rfl) (by simp) ?_
  refine AllReadyH.cons (o := { dst := some 17, op := Op.call { callee := Callee.value (Operand.func 32), args := #[Operand.tmp 15, Operand.tmp 16], argTypes := #[9, 50] }, type := 74, pos := _, after := #[{ on := 3, ground := Ground.data }, { on := 4, ground := Ground.data }], guard := none }) rfl (fun K hK => ?_) AllReadyH.nil
  go_simp
  refine (openLeg_l s r _).mono ?_
  rintro e w4 ⟨rfl, hH⟩
  have hWi4 := hWi3.quiet hH
  have hRe4 := hRe3.quiet hH
  have hZ4 := hZ3.quiet hH
  have hG4 := hG3.trans hH
  clear hH
  refine hK.out _ _ ?_ (fun hHeld => ?_)
  · exact ⟨hWi4.cell 0, hWi4.cell 1, hRe4.cell 0, hRe4.cell 1, hRe4.cell 2, hRe4.cell 3⟩
  clear hK K
  try simp only [Act.put, List.setIfInBounds_toArray, List.set_cons_zero, List.set_cons_succ]
  refine wpAnyH_ready (rs := [6]) (by kernel_rfl) (by simp) ?_
  refine AllReadyH.cons (o := { dst := some 18, op := Op.buildSlice 44 1 #[(0, Operand.tmp 17)], type := 44, pos := _, after := #[{ on := 5, ground := Ground.data }], guard := none }) rfl (fun K hK => ?_) AllReadyH.nil
  go_simp
  have hH := (G.refl w4 none).alloc (.cells #[.string s, .int .i64 r.1, .string r.2.1, .int .i64 r.2.2.1, .int .i64 r.2.2.2, .int .i64 (-1), .string ⟨#[]⟩, .int .i64 0, .int .i64 0] 74)
  have hWi5 := hWi4.quiet hH
  have hRe5 := hRe4.quiet hH
  have hZ5 := hZ4.quiet hH
  have hG5 := hG4.trans hH
  clear hH
  refine hK.out _ _ ?_ (fun hHeld => ?_)
  · exact ⟨hWi5.cell 0, hWi5.cell 1, hRe5.cell 0, hRe5.cell 1, hRe5.cell 2, hRe5.cell 3⟩
  clear hK K
  try simp only [Act.put, List.setIfInBounds_toArray, List.set_cons_zero, List.set_cons_succ]
  refine wpAnyH_take (i := 7) (oi := { dst := some 19, op := Op.build 46 #[(0, Operand.tmp 12), (1, Operand.tmp 13), (2, Operand.tmp 14), (3, Operand.tmp 18)], type := 46, pos := _, after := #[{ on := 0, ground := Ground.data }, { on := 1, ground := Ground.data }, { on := 2, ground := Ground.data }, { on := 6, ground := Ground.data }], guard := none }) (v := ?_) rfl (by kernel_rfl) (by kernel_rfl) (by kernel_rfl) (fun _ _ _ h => h) (Or.inl ⟨by rfl, ?_⟩) (by assumption) ?_
  rotate_left
  · (intro w hSw; obtain ⟨s0, s1, s2, s3, s4, s5⟩ := hSw; (go_simp <;> with_reducible rfl))
  try simp only [Act.put, List.setIfInBounds_toArray, List.set_cons_zero, List.set_cons_succ]
  refine wpAnyH_ready (rs := [8]) (by kernel_rfl) (by simp) ?_
  refine AllReadyH.cons (o := { dst := some 20, op := Op.call { callee := Callee.value (Operand.func 31), args := #[Operand.tmp 19], argTypes := #[46] }, type := 47, pos := _, after := #[{ on := 7, ground := Ground.data }, { on := 5, ground := Ground.chain }], guard := none }) rfl (fun K hK => ?_) AllReadyH.nil
  go_simp
  refine (right_c h (.slice (some ⟨w4.heap.size, 0, none⟩) 1 1) [(s, r, noIn)] _ (RdR.oneLg (b := (s, r, noIn)) (Bk.new w4 _ _)) hb0 hs1 hs2 hb1 hb2 (by simp)).mono ?_
  rintro e w6 ⟨H, a, n, c, rfl, hHH, hBB, hR6, hH⟩
  have HHH := Lib.hid hHH
  have HBB := Lib.hid hBB
  clear hHH hBB
  have hWi6 := hWi5.quiet hH
  have hRe6 := hRe5.quiet hH
  have hZ6 := hZ5.quiet hH
  have hG6 := hG5.trans hH
  clear hH
  refine hK.out _ _ ?_ (fun hHeld => ?_)
  · exact ⟨hWi6.cell 0, hWi6.cell 1, hRe6.cell 0, hRe6.cell 1, hRe6.cell 2, hRe6.cell 3⟩
  clear hK K
  try simp only [Act.put, List.setIfInBounds_toArray, List.set_cons_zero, List.set_cons_succ]
  refine wpAnyH_take (i := 9) (oi := { dst := some 21, op := Op.extract (Operand.tmp 20) 0, type := 46, pos := _, after := #[{ on := 8, ground := Ground.data }], guard := none }) (v := ?_) rfl (by kernel_rfl) (by kernel_rfl) (by kernel_rfl) (fun _ _ _ h => h) (Or.inl ⟨by rfl, ?_⟩) (by assumption) ?_
  rotate_left
  · (intro w hSw; obtain ⟨s0, s1, s2, s3, s4, s5⟩ := hSw; (go_simp <;> with_reducible rfl))
  try simp only [Act.put, List.setIfInBounds_toArray, List.set_cons_zero, List.set_cons_succ]
  refine wpAnyH_take (i := 10) (oi := { dst := some 22, op := Op.extract (Operand.tmp 20) 1, type := 33, pos := _, after := #[{ on := 8, ground := Ground.data }], guard := none }) (v := ?_) rfl (by kernel_rfl) (by kernel_rfl) (by kernel_rfl) (fun _ _ _ h => h) (Or.inl ⟨by rfl, ?_⟩) (by assumption) ?_
  rotate_left
  · (intro w hSw; obtain ⟨s0, s1, s2, s3, s4, s5⟩ := hSw; (go_simp <;> with_reducible rfl))
  try simp only [Act.put, List.setIfInBounds_toArray, List.set_cons_zero, List.set_cons_succ]
  refine wpAnyH_ready (rs := [11]) (by kernel_rfl) (by simp) ?_
  refine AllReadyH.cons (o := { dst := none, op := Op.store 46 (Operand.tmp 10) (Operand.tmp 21), type := 0, pos := _, after := #[{ on := 9, ground := Ground.data }, { on := 8, ground := Ground.chain }, { on := 0, ground := Ground.phase }, { on := 1, ground := Ground.phase }, { on := 2, ground := Ground.phase }, { on := 3, ground := Ground.phase }, { on := 4, ground := Ground.phase }, { on := 5, ground := Ground.phase }, { on := 6, ground := Ground.phase }, { on := 7, ground := Ground.phase }, { on := 8, ground := Ground.phase }, { on := 9, ground := Ground.phase }, { on := 10, ground := Ground.phase }], guard := none }) rfl (fun K hK => ?_) AllReadyH.nil
  refine st_wp rfl (wp_store_row 46 _ _ rfl (w.heap.size + 2) #[.string H.1, .string H.2.1, .int .i64 H.2.2.1, .int .i64 H.2.2.2, .slice a n c] rfl rfl 46 _ hZ6 (hi_info H _) rfl (hi_one H a n c) ?_)
  have hWi7 := hWi6.farRow (show w.heap.size ≠ w.heap.size + 2 by omega) #[.string H.1, .string H.2.1, .int .i64 H.2.2.1, .int .i64 H.2.2.2, .slice a n c]
  have hRe7 := hRe6.farRow (show w.heap.size + 1 ≠ w.heap.size + 2 by omega) #[.string H.1, .string H.2.1, .int .i64 H.2.2.1, .int .i64 H.2.2.2, .slice a n c]
  refine hK.out _ _ ?_ (fun hHeld => ?_)
  · exact ⟨hWi7.cell 0, hWi7.cell 1, hRe7.cell 0, hRe7.cell 1, hRe7.cell 2, hRe7.cell 3⟩
  clear hK K
  try simp only [Act.put]
  refine wpAnyH_take (i := 12) (oi := { dst := some 11, op := Op.assign (Operand.tmp 22), type := 33, pos := _, after := #[{ on := 10, ground := Ground.data }, { on := 11, ground := Ground.chain }, { on := 0, ground := Ground.phase }, { on := 1, ground := Ground.phase }, { on := 2, ground := Ground.phase }, { on := 3, ground := Ground.phase }, { on := 4, ground := Ground.phase }, { on := 5, ground := Ground.phase }, { on := 6, ground := Ground.phase }, { on := 7, ground := Ground.phase }, { on := 8, ground := Ground.phase }, { on := 9, ground := Ground.phase }, { on := 10, ground := Ground.phase }, { on := 11, ground := Ground.phase }], guard := none }) (v := ?_) rfl (by kernel_rfl) (by kernel_rfl) (by kernel_rfl) (fun _ _ _ h => h) (Or.inl ⟨by rfl, ?_⟩) (by assumption) ?_
  rotate_left
  · (intro w hSw; obtain ⟨s0, s1, s2, s3, s4, s5⟩ := hSw; (go_simp <;> with_reducible rfl))
  try simp only [Act.put, List.setIfInBounds_toArray, List.set_cons_zero, List.set_cons_succ]
  refine wpAnyH_done (by kernel_rfl) ?_ _
  -- @END
  go_wp2_with fail
  refine bodyPost_ret (results_cell_hi rfl _ _ (w.heap.size + 2) 46 #[.string H.1, .string H.2.1, .int .i64 H.2.2.1, .int .i64 H.2.2.2, .slice a n c] (0, 0) _ rfl (hZ6.setRow _) Try.underlying46 rfl (hi_info H _)) rfl ?_
  have hw4 := hZ4.lt
  have hk4 : ∀ k, (Value.slice a n c).ownBlock = some k → k = w4.heap.size := fun k hk => by have := HBB.out k hk; cases this; rfl
  exact ⟨H, a, n, c, rfl, HHH.out, fun k hk => by have := hk4 k hk; omega, Rd.grown hR6 ((G.refl w6 (some (w.heap.size + 2))).setRow (.inr rfl) _) (fun k e hk => by cases e; have := hk4 _ hk; omega), hG6.setRow (.inl (by omega)) _⟩
end Go.Proofs.Ytbddcbbjmgepnaa

/- LaterCostsMore: its calls. -/
namespace Go.Proofs.Ytbddcbbjmgepnaa
open Go.RowKit

theorem lm_small : Small lmH.1 ∧ Small lmH.2.1 ∧ Small lmV ∧ Small lmS := ⟨small_of (by decide), small_of (by decide), small_of (by decide), small_of (by decide)⟩
theorem lm_bnd : bnd lmH.2.2.1 ∧ bnd lmH.2.2.2 := ⟨by unfold bnd lmH; dsimp only; omega, by unfold bnd lmH; dsimp only; omega⟩
theorem lm_lgOk (r : Rg) (h : Small r.2.1) : LgOk (lmL r) := fun x hx => by
  obtain rfl := List.mem_singleton.1 hx
  exact ⟨lm_small.2.2.1, lm_small.2.2.2, h⟩
theorem lm_rd1 {w : World} {a : Option Addr} {n c : Nat} {r : Rg} (h : RdR w 9 lgC (.slice a n c) (lmL r)) : n = 1 := by
  obtain ⟨a', c', hv, -, -⟩ := RdR.form h
  cases hv
  rfl
theorem lmStart_c (w : World) : Calls Try.prog 12 #[.string ⟨#[104, 49]⟩, .string ⟨#[97, 110, 110]⟩, .agg #[.int .i64 100, .int .i64 1000], .string ⟨#[118, 49]⟩, .agg #[.int .i64 100, .string ⟨#[115, 49]⟩, .int .i64 0, .int .i64 8]] w
    fun e w' => ∃ a c, e = .returned (.tuple #[.agg #[.string ⟨#[104, 49]⟩, .string ⟨#[97, 110, 110]⟩, .int .i64 100, .int .i64 1000, .slice a 1 c], .int .i64 0]) ∧ RdR w' 9 lgC (.slice a 1 c) (lmL noIn) ∧ (∀ k, (Value.slice a 1 c).ownBlock = some k → w.heap.size ≤ k) ∧ G w w' none := by
  refine (start_c lmH lmV lmO w lm_small.2.2.1 lm_small.2.2.2 lm_small.1 lm_small.2.1 lm_bnd.1 lm_bnd.2).mono ?_
  rintro e w' ⟨H, a, n, c, rfl, hH, hb, hR, hG⟩
  have e0 : hiE lmH [(lmV, lmO, noIn)] = 0 := lm0.1
  rw [e0] at hH hR
  obtain rfl : H = lmH := hH
  obtain rfl : n = 1 := lm_rd1 (r := noIn) hR
  exact ⟨a, c, by rw [e0]; rfl, hR, hb, hG⟩
theorem lmClose_c (a1 : Option Addr) (c1 : Nat) (t m f : Int) (w : World) (h1 : 100 < t) (h2 : t ≤ 8000) (h3 : 0 ≤ m) (h4 : m ≤ 2500) (h5 : 0 ≤ f) (h6 : f ≤ 8) (hr : RdR w 9 lgC (.slice a1 1 c1) (lmL noIn)) :
    Calls Try.prog 13 #[.agg #[.string ⟨#[104, 49]⟩, .string ⟨#[97, 110, 110]⟩, .int .i64 100, .int .i64 1000, .slice a1 1 c1], .agg #[.int .i64 t, .string ⟨#[115, 49]⟩, .int .i64 m, .int .i64 f]] w
    fun e w' => ∃ a c, e = .returned (.tuple #[.agg #[.string ⟨#[104, 49]⟩, .string ⟨#[97, 110, 110]⟩, .int .i64 100, .int .i64 1000, .slice a 1 c], .int .i64 0]) ∧ RdR w' 9 lgC (.slice a 1 c) (lmL (t, lmS, m, f)) ∧ (∀ k, (Value.slice a 1 c).ownBlock = some k → w.heap.size ≤ k) ∧ G w w' none := by
  refine (close_c lmH (.slice a1 1 c1) (lmL noIn) (t, lmS, m, f) w hr (lm_lgOk _ (small_of (by decide))) lm_small.1 lm_small.2.1 lm_bnd.1 lm_bnd.2 (by decide) lm_small.2.2.2).mono ?_
  rintro e w' ⟨H, a, n, c, rfl, hH, hb, hR, hG⟩
  have e0 : chE lmH (lmL noIn) lmH (inL (lmL noIn) (t, lmS, m, f)) = 0 := by
    unfold chE
    rw [if_pos lm0.1, if_pos lm0.2, lm_in]
    exact (lm_hi h1 h2 h3 h4 h5 h6).1
  rw [e0] at hH hR
  obtain rfl : H = lmH := hH
  have hR : RdR w' 9 lgC (.slice a n c) (lmL (t, lmS, m, f)) := hR
  obtain rfl : n = 1 := lm_rd1 hR
  exact ⟨a, c, by rw [e0]; rfl, hR, hb, hG⟩
theorem lmBill_c (x : De) (hx : deE x = 0) (a1 : Option Addr) (c1 : Nat) (t m f : Int) (w : World) (h1 : 100 < t) (h2 : t ≤ 8000) (h3 : 0 ≤ m) (h4 : m ≤ 2500) (h5 : 0 ≤ f) (h6 : f ≤ 8) (hr : RdR w 9 lgC (.slice a1 1 c1) (lmL (t, lmS, m, f))) :
    Calls Try.prog 14 #[.agg (deC x), .agg #[.string ⟨#[104, 49]⟩, .string ⟨#[97, 110, 110]⟩, .int .i64 100, .int .i64 1000, .slice a1 1 c1], .slice none 0 0] w
    fun e w' => ∃ v', e = .returned (.tuple #[v', .int .i64 0]) ∧ RdR w' 3 liC v' (biL x lmH (lmL (t, lmS, m, f)) []) ∧ G w w' none := by
  have := bill_c x lmH (.slice a1 1 c1) (lmL (t, lmS, m, f)) (.slice none 0 0) [] w hr (lm_lgOk _ lm_small.2.2.2) lm_small.1 lm_small.2.1 lm_bnd.1 lm_bnd.2 (show 1 ≤ 1000 by decide) (RdR.nil _ _ _) (fun _ h => by cases h) (by simp)
  rw [(lm_bill hx h1 h2 h3 h4 h5 h6).1] at this
  exact this
theorem biL_ok {x : De} {h : Hh} {l : List Lg} {ls : List Li} (hl : LiOk ls) : LiOk (biL x h l ls) ∧ (biL x h l ls).length ≤ ls.length + 3 := by
  unfold biL
  split
  · refine ⟨billL_ok hl, ?_⟩
    unfold billL
    have := (liAdd_len ls kLate (lcN x (laN h l))).2
    have := (liAdd_len (liAdd ls kLate (lcN x (laN h l))) kDist (dcN x h l)).2
    have := (liAdd_len (liAdd (liAdd ls kLate (lcN x (laN h l))) kDist (dcN x h l)) kFuel (x.eighth * miS l)).2
    omega
  · exact ⟨fun _ h => (by cases h), by simp⟩
/-- What is due in all. -/
def lmE (x : De) (t m f : Int) : Int := lcN x (max 0 (t - 1000)) + x.km * max 0 (m - x.free) + x.eighth * (8 - f)
theorem lmE_less {x : De} (hx : deE x = 0) : ∀ t m f t2 m2 f2 : Int, t ≤ t2 → m ≤ m2 → f2 ≤ f → lmE x t m f ≤ lmE x t2 m2 f2 := fun _ _ _ _ _ _ h1 h2 h3 => lm_less hx h1 h2 h3
theorem lmTotal_c (x : De) (hx : deE x = 0) (v : Value) (t m f : Int) (w : World) (h1 : 100 < t) (h2 : t ≤ 8000) (h3 : 0 ≤ m) (h4 : m ≤ 2500) (h5 : 0 ≤ f) (h6 : f ≤ 8) (hr : RdR w 3 liC v (biL x lmH (lmL (t, lmS, m, f)) [])) :
    Calls Try.prog 15 #[v] w fun e w' => e = .returned (.tuple #[.int .i64 (lmE x t m f), .int .i64 0]) ∧ G w w' none := by
  obtain ⟨b1, b2⟩ := biL_ok (x := x) (h := lmH) (l := lmL (t, lmS, m, f)) (ls := []) (fun _ h => by cases h)
  obtain ⟨-, l1, l2⟩ := lm_bill hx h1 h2 h3 h4 h5 h6
  have := total_c v _ w hr b1 (by simp at b2; omega)
  rw [toN, if_pos l1, l1, l2] at this
  exact this
end Go.Proofs.Ytbddcbbjmgepnaa

/- Generator: Deal. Written by gendep.py. -/
namespace Go.Proofs.Ytbddcbbjmgepnaa
open Go.RowKit

def DealPost (s K : Nat) (w : World) (e : Ending) (w' : World) : Prop :=
  ∃ x : De, e = .returned (.agg (deC x)) ∧ SB w' s (K + 16) ∧ G w w' (some s)
theorem de_one (x : De) : (deC x).all (·.oneCell') = true := by simp [deC, Value.oneCell']
theorem deal_fin {w w3 : World} {s K : Nat} {x : De} (hs : s < w.heap.size) (hSB : SB w3 s (K + 16)) (hG : G w w3 (some s)) :
    DealPost s K w (.returned (.agg (deC x))) (w3.setRow w.heap.size (deC x)) :=
  ⟨x, rfl, hSB.setRow hs _, hG.setRow (.inl (Nat.le_refl _)) _⟩
set_option maxRecDepth 100000 in
set_option maxHeartbeats 4000000 in
theorem deal_c (w : World) (s : Nat) (K : Nat) (hs : SB w s K) (hk : K ≤ 900000000000) :
    Calls Try.prog 29 #[.pointer (some ⟨s, 0, none⟩)] w (DealPost s K w) := by
  have hslt := hs.lt
  go_enter Try.func29, Try.ntmps29
  go_wp2_with fail
  refine (pick_c _ _ _ [0, 100, 200, 10000] _ _ K ((hs.alloc _).alloc _) (by omega) (by decide) (by decide) (Rd.newAt _ (by simp) rfl (by decide)) (hs.newAt _ _ _ (by omega))).mono ?_
  rintro e w1 ⟨a0, rfl, hp, hSB1, hG1⟩
  have hz1 : w.heap.size + 2 ≤ w1.heap.size := by have := hG1.size; simp at this; omega
  have hB1 := ((Bk.new w 42 #[.int .i64 0, .int .i64 0, .int .i64 0, .int .i64 0, .int .i64 0, .int .i64 0, .int .i64 0]).alloc (.cells _ 3)).grown hG1 (by simp; omega)
  have hG01 : G w w1 (some s) := (((G.refl w (some s)).alloc _).alloc _).trans hG1
  clear hG1 hp hz1
  go_wp2_with fail
  refine (pick_c _ _ _ [0, 2, 30] _ _ _ (hSB1.alloc _) (by omega) (by decide) (by decide) (Rd.newAt _ rfl rfl (by decide)) (hSB1.newAt _ _ _ (Nat.le_refl _))).mono ?_
  rintro e w2 ⟨a1, rfl, hp, hSB2, hG2⟩
  have hB2 := (hB1.alloc (.cells _ 3)).grown hG2 (by simp; omega)
  have hG02 := (hG01.alloc _).trans hG2
  clear hG2 hp hB1 hG01 hSB1
  go_wp2_with fail
  refine (pick_c _ _ _ [0, 300, 1000] _ _ _ (hSB2.alloc _) (by omega) (by decide) (by decide) (Rd.newAt _ rfl rfl (by decide)) (hSB2.newAt _ _ _ (Nat.le_refl _))).mono ?_
  rintro e w3 ⟨a2, rfl, hp, hSB3, hG3⟩
  have hB3 := (hB2.alloc (.cells _ 3)).grown hG3 (fun e => by have := Option.some.inj e; omega)
  have hG03 := (hG02.alloc _).trans hG3
  clear hG3 hp hB2 hG02 hSB2
  go_wp2_with fail
  refine (pick_c _ _ _ [0, 29, 30, 59, 60] _ _ _ (hSB3.alloc _) (by omega) (by decide) (by decide) (Rd.newAt _ rfl rfl (by decide)) (hSB3.newAt _ _ _ (Nat.le_refl _))).mono ?_
  rintro e w4 ⟨a3, rfl, hp, hSB4, hG4⟩
  have hB4 := (hB3.alloc (.cells _ 3)).grown hG4 (fun e => by have := Option.some.inj e; omega)
  have hG04 := (hG03.alloc _).trans hG4
  clear hG4 hp hB3 hG03 hSB3
  go_wp2_with fail
  refine (pick_c _ _ _ [0, 500, 1000, 2000] _ _ _ (hSB4.alloc _) (by omega) (by decide) (by decide) (Rd.newAt _ rfl rfl (by decide)) (hSB4.newAt _ _ _ (Nat.le_refl _))).mono ?_
  rintro e w5 ⟨a4, rfl, hp, hSB5, hG5⟩
  have hB5 := (hB4.alloc (.cells _ 3)).grown hG5 (fun e => by have := Option.some.inj e; omega)
  have hG05 := (hG04.alloc _).trans hG5
  clear hG5 hp hB4 hG04 hSB4
  go_wp2_with fail
  refine (pick_c _ _ _ [0, 4000, 5000, 9000] _ _ _ (hSB5.alloc _) (by omega) (by decide) (by decide) (Rd.newAt _ rfl rfl (by decide)) (hSB5.newAt _ _ _ (Nat.le_refl _))).mono ?_
  rintro e w6 ⟨a5, rfl, hp, hSB6, hG6⟩
  have hB6 := (hB5.alloc (.cells _ 3)).grown hG6 (fun e => by have := Option.some.inj e; omega)
  have hG06 := (hG05.alloc _).trans hG6
  clear hG6 hp hB5 hG05 hSB5
  go_wp2_with fail
  refine (pick_c _ _ _ [0, 10000, 1000000] _ _ _ (hSB6.alloc _) (by omega) (by decide) (by decide) (Rd.newAt _ rfl rfl (by decide)) (hSB6.newAt _ _ _ (Nat.le_refl _))).mono ?_
  rintro e w7 ⟨a6, rfl, hp, hSB7, hG7⟩
  have hB7 := (hB6.alloc (.cells _ 3)).grown hG7 (fun e => by have := Option.some.inj e; omega)
  have hG07 := (hG06.alloc _).trans hG7
  clear hG7 hp hB6 hG06 hSB6
  have hN8 := Bk.new w7 42 #[.int .i64 a0, .int .i64 a1, .int .i64 a2, .int .i64 a3, .int .i64 a4, .int .i64 a5, .int .i64 a6]
  have hSB8 := hSB7.alloc (.cells #[.int .i64 a0, .int .i64 a1, .int .i64 a2, .int .i64 a3, .int .i64 a4, .int .i64 a5, .int .i64 a6] 42)
  have hB8 := hB7.alloc (.cells #[.int .i64 a0, .int .i64 a1, .int .i64 a2, .int .i64 a3, .int .i64 a4, .int .i64 a5, .int .i64 a6] 42)
  have hG08 := hG07.alloc (.cells #[.int .i64 a0, .int .i64 a1, .int .i64 a2, .int .i64 a3, .int .i64 a4, .int .i64 a5, .int .i64 a6] 42)
  have hs7 := hSB7.lt
  have hl7 := hB7.lt
  have hgw : w.heap.size ≤ w7.heap.size := hG07.size
  clear hB7 hG07 hSB7
  go_wp2_with fail
  generalize w7.alloc (.cells #[.int .i64 a0, .int .i64 a1, .int .i64 a2, .int .i64 a3, .int .i64 a4, .int .i64 a5, .int .i64 a6] 42) = w8 at hN8 hSB8 hB8 hG08 ⊢
  generalize w7.heap.size = g at hN8 hs7 hl7 hgw ⊢
  refine (flip_c _ _ _ _ hSB8 (by omega) (by omega)).mono ?_; rintro e w9 ⟨q, rfl, hSB9, hG9⟩
  have hN9 := hN8.grown hG9 (fun e => by have := Option.some.inj e; omega)
  have hB9 := hB8.grown hG9 (fun e => by have := Option.some.inj e; omega)
  have hG09 := hG08.trans hG9
  clear hN8 hB8 hG08 hG9 hSB8
  cases q with
  | false =>
    go_wp2_with (first | (refine wpList_load_row rfl 42 _ rfl g rfl 42 #[.int .i64 a0, .int .i64 a1, .int .i64 a2, .int .i64 a3, .int .i64 a4, .int .i64 a5, .int .i64 a6] (0, 0) _ hN9 Try.underlying42 rfl (de_info ⟨a0, a1, a2, a3, a4, a5, a6⟩) ?_) | (refine wpList_store_row rfl 42 _ _ rfl w.heap.size #[.int .i64 a0, .int .i64 a1, .int .i64 a2, .int .i64 a3, .int .i64 a4, .int .i64 a5, .int .i64 a6] rfl rfl 42 _ hB9 (de_info ⟨a0, a1, a2, a3, a4, a5, a6⟩) rfl (de_one ⟨a0, a1, a2, a3, a4, a5, a6⟩) ?_) | (refine wpList_load_row rfl 42 _ rfl w.heap.size rfl 42 #[.int .i64 a0, .int .i64 a1, .int .i64 a2, .int .i64 a3, .int .i64 a4, .int .i64 a5, .int .i64 a6] (0, 0) _ (hB9.setRow _) Try.underlying42 rfl (de_info ⟨a0, a1, a2, a3, a4, a5, a6⟩) ?_))
    refine bodyPost_ret (results_cell_row rfl _ _ w.heap.size 42 #[.int .i64 a0, .int .i64 a1, .int .i64 a2, .int .i64 a3, .int .i64 a4, .int .i64 a5, .int .i64 a6] (0, 0) _ rfl (hB9.setRow _) Try.underlying42 rfl (de_info ⟨a0, a1, a2, a3, a4, a5, a6⟩)) rfl ?_
    exact deal_fin (x := ⟨a0, a1, a2, a3, a4, a5, a6⟩) hslt (hSB9.le (by omega)) hG09
  | true =>
    go_wp2_with fail
    refine (odd_c _ _ _ _ _ hSB9 (by omega) (by omega) (by omega) (by omega) (by omega)).mono ?_; rintro e wa ⟨b0, rfl, b0, b1, hSBa, hGa⟩
    have hNa := hN9.grown hGa (fun e => by have := Option.some.inj e; omega)
    have hBa := hB9.grown hGa (fun e => by have := Option.some.inj e; omega)
    have hG0a := hG09.trans hGa
    clear hN9 hB9 hG09 hGa hSB9 b0 b1
    go_wp2_with fail
    refine (odd_c _ _ _ _ _ hSBa (by omega) (by omega) (by omega) (by omega) (by omega)).mono ?_; rintro e wb ⟨b1, rfl, b0, b1, hSBb, hGb⟩
    have hNb := hNa.grown hGb (fun e => by have := Option.some.inj e; omega)
    have hBb := hBa.grown hGb (fun e => by have := Option.some.inj e; omega)
    have hG0b := hG0a.trans hGb
    clear hNa hBa hG0a hGb hSBa b0 b1
    go_wp2_with fail
    refine (odd_c _ _ _ _ _ hSBb (by omega) (by omega) (by omega) (by omega) (by omega)).mono ?_; rintro e wc ⟨b2, rfl, b0, b1, hSBc, hGc⟩
    have hNc := hNb.grown hGc (fun e => by have := Option.some.inj e; omega)
    have hBc := hBb.grown hGc (fun e => by have := Option.some.inj e; omega)
    have hG0c := hG0b.trans hGc
    clear hNb hBb hG0b hGc hSBb b0 b1
    go_wp2_with fail
    refine (odd_c _ _ _ _ _ hSBc (by omega) (by omega) (by omega) (by omega) (by omega)).mono ?_; rintro e wd ⟨b3, rfl, b0, b1, hSBd, hGd⟩
    have hNd := hNc.grown hGd (fun e => by have := Option.some.inj e; omega)
    have hBd := hBc.grown hGd (fun e => by have := Option.some.inj e; omega)
    have hG0d := hG0c.trans hGd
    clear hNc hBc hG0c hGd hSBc b0 b1
    have n0 : wd.cell? ⟨g, 0, none⟩ = some (.int .i64 a0) := hNd.cell 0
    have n1 : wd.cell? ⟨g, 1, none⟩ = some (.int .i64 a1) := hNd.cell 1
    have n2 : wd.cell? ⟨g, 2, none⟩ = some (.int .i64 a2) := hNd.cell 2
    have n3 : wd.cell? ⟨g, 3, none⟩ = some (.int .i64 a3) := hNd.cell 3
    have n4 : wd.cell? ⟨g, 4, none⟩ = some (.int .i64 a4) := hNd.cell 4
    have n5 : wd.cell? ⟨g, 5, none⟩ = some (.int .i64 a5) := hNd.cell 5
    have n6 : wd.cell? ⟨g, 6, none⟩ = some (.int .i64 a6) := hNd.cell 6
    have x0 := hNd.free 0
    have x3 := hNd.free 3
    have x4 := hNd.free 4
    have x6 := hNd.free 6
    go_upto_region 4 with fail
    have hNe : Bk ((((wd.setCell ⟨g, 0, none⟩ (.int .i64 b0)).setCell ⟨g, 3, none⟩ (.int .i64 b1)).setCell ⟨g, 4, none⟩ (.int .i64 b2)).setCell ⟨g, 6, none⟩ (.int .i64 b3)) g 42 #[.int .i64 b0, .int .i64 a1, .int .i64 a2, .int .i64 b1, .int .i64 b2, .int .i64 a5, .int .i64 b3] := (((hNd.set 0 _).set 3 _).set 4 _).set 6 _
    have hBe := ((((hBd.far (p := ⟨g, 0, none⟩) (show w.heap.size ≠ g by omega) (.int .i64 b0)).far (p := ⟨g, 3, none⟩) (show w.heap.size ≠ g by omega) (.int .i64 b1)).far (p := ⟨g, 4, none⟩) (show w.heap.size ≠ g by omega) (.int .i64 b2)).far (p := ⟨g, 6, none⟩) (show w.heap.size ≠ g by omega) (.int .i64 b3))
    have hSBe := ((((hSBd.setCell (p := ⟨g, 0, none⟩) hs7 (.int .i64 b0)).setCell (p := ⟨g, 3, none⟩) hs7 (.int .i64 b1)).setCell (p := ⟨g, 4, none⟩) hs7 (.int .i64 b2)).setCell (p := ⟨g, 6, none⟩) hs7 (.int .i64 b3))
    have hG0e := ((((hG0d.setCell (p := ⟨g, 0, none⟩) (.inl hgw) (.int .i64 b0)).setCell (p := ⟨g, 3, none⟩) (.inl hgw) (.int .i64 b1)).setCell (p := ⟨g, 4, none⟩) (.inl hgw) (.int .i64 b2)).setCell (p := ⟨g, 6, none⟩) (.inl hgw) (.int .i64 b3))
    generalize ((((wd.setCell ⟨g, 0, none⟩ (.int .i64 b0)).setCell ⟨g, 3, none⟩ (.int .i64 b1)).setCell ⟨g, 4, none⟩ (.int .i64 b2)).setCell ⟨g, 6, none⟩ (.int .i64 b3)) = we at hNe hBe hSBe hG0e ⊢
    clear hNd hBd hSBd hG0d n0 n1 n2 n3 n4 n5 n6 x0 x3 x4 x6
    go_wp2_with (first | (refine wpList_load_row rfl 42 _ rfl g rfl 42 #[.int .i64 b0, .int .i64 a1, .int .i64 a2, .int .i64 b1, .int .i64 b2, .int .i64 a5, .int .i64 b3] (0, 0) _ hNe Try.underlying42 rfl (de_info ⟨b0, a1, a2, b1, b2, a5, b3⟩) ?_) | (refine wpList_store_row rfl 42 _ _ rfl w.heap.size #[.int .i64 b0, .int .i64 a1, .int .i64 a2, .int .i64 b1, .int .i64 b2, .int .i64 a5, .int .i64 b3] rfl rfl 42 _ hBe (de_info ⟨b0, a1, a2, b1, b2, a5, b3⟩) rfl (de_one ⟨b0, a1, a2, b1, b2, a5, b3⟩) ?_) | (refine wpList_load_row rfl 42 _ rfl w.heap.size rfl 42 #[.int .i64 b0, .int .i64 a1, .int .i64 a2, .int .i64 b1, .int .i64 b2, .int .i64 a5, .int .i64 b3] (0, 0) _ (hBe.setRow _) Try.underlying42 rfl (de_info ⟨b0, a1, a2, b1, b2, a5, b3⟩) ?_))
    refine bodyPost_ret (results_cell_row rfl _ _ w.heap.size 42 #[.int .i64 b0, .int .i64 a1, .int .i64 a2, .int .i64 b1, .int .i64 b2, .int .i64 a5, .int .i64 b3] (0, 0) _ rfl (hBe.setRow _) Try.underlying42 rfl (de_info ⟨b0, a1, a2, b1, b2, a5, b3⟩)) rfl ?_
    exact deal_fin (x := ⟨b0, a1, a2, b1, b2, a5, b3⟩) hslt (hSBe.le (by omega)) hG0e
end Go.Proofs.Ytbddcbbjmgepnaa

/- Generator: RightDeal. -/
namespace Go.Proofs.Ytbddcbbjmgepnaa
open Go.RowKit

def RdlPost (s K : Nat) (w : World) (e : Ending) (w' : World) : Prop :=
  ∃ x : De, e = .returned (.agg (deC x)) ∧ deE x = 0 ∧ SB w' s (K + 128) ∧ G w w' (some s)
theorem rdl_fin {w w3 : World} {s K : Nat} {x : De} (hs : s < w.heap.size) (hx : deE x = 0) (hSB : SB w3 s (K + 128)) (hG : G w w3 (some s)) :
    RdlPost s K w (.returned (.agg (deC x))) (w3.setRow w.heap.size (deC x)) :=
  ⟨x, rfl, hx, hSB.setRow hs _, hG.setRow (.inl (Nat.le_refl _)) _⟩
def RdlRel (w : World) (s K : Nat) (i : Value) (wr : World) : Prop :=
  ∃ k : Nat, k ≤ 8 ∧ i = .int .i64 k ∧ Bk wr w.heap.size 42 #[.int .i64 0, .int .i64 0, .int .i64 0, .int .i64 0, .int .i64 0, .int .i64 0, .int .i64 0] ∧ SB wr s (K + 16 * k) ∧ G w wr (some s)
set_option maxRecDepth 100000 in
set_option maxHeartbeats 4000000 in
theorem rightDeal_c (w : World) (s : Nat) (K : Nat) (hs : SB w s K) (hk : K ≤ 800000000000) :
    Calls Try.prog 11 #[.pointer (some ⟨s, 0, none⟩)] w (RdlPost s K w) := by
  have hslt := hs.lt
  go_enter Try.func11, Try.ntmps11
  go_wp2_with fail
  go_loopw [4] (RdlRel w s K) (fun i _ => 8 - (intOf i).toNat)
  case atStart => exact ⟨0, by omega, rfl, Bk.new w _ _, hs.alloc _, (G.refl _ _).alloc _⟩
  case round =>
    obtain ⟨k, hk8, rfl, hB, hSB, hG⟩ := hrel
    clear hs
    by_cases hk2 : k < 8
    · have HK := Lib.hid hk2
      go_wp2_with fail
      refine (deal_c _ s _ hSB (by omega)).mono ?_; rintro e w1 ⟨x, rfl, hSB1, hG1⟩
      have hC := Lib.hid (fun w => dealFault_c x w)
      obtain ⟨d, hd⟩ : ∃ d, deE x = d := ⟨_, rfl⟩
      have hd01 := deE_or x
      obtain ⟨a0, a1, a2, a3, a4, a5, a6⟩ := x
      rw [hd] at hd01
      have hC : Hid (∀ w, Calls Try.prog 30 #[.agg #[.int .i64 a0, .int .i64 a1, .int .i64 a2, .int .i64 a3, .int .i64 a4, .int .i64 a5, .int .i64 a6]] w fun e w' => e = .returned (.int .i64 d) ∧ G w w' none) := Lib.hid fun w => hd ▸ hC.out w
      have HD := Lib.hid hd
      have hB1 := hB.grown hG1 (fun e => by have := Option.some.inj e; omega)
      have hl1 := hB1.lt
      have hs1 := hSB1.lt
      have hG01 := hG.trans hG1
      have hN2 := Bk.new w1 42 #[.int .i64 a0, .int .i64 a1, .int .i64 a2, .int .i64 a3, .int .i64 a4, .int .i64 a5, .int .i64 a6]
      have hB2 := hB1.alloc (.cells #[.int .i64 a0, .int .i64 a1, .int .i64 a2, .int .i64 a3, .int .i64 a4, .int .i64 a5, .int .i64 a6] 42)
      have hSB2 := hSB1.alloc (.cells #[.int .i64 a0, .int .i64 a1, .int .i64 a2, .int .i64 a3, .int .i64 a4, .int .i64 a5, .int .i64 a6] 42)
      have hG02 := hG01.alloc (.cells #[.int .i64 a0, .int .i64 a1, .int .i64 a2, .int .i64 a3, .int .i64 a4, .int .i64 a5, .int .i64 a6] 42)
      rw [show deC ⟨a0, a1, a2, a3, a4, a5, a6⟩ = #[.int .i64 a0, .int .i64 a1, .int .i64 a2, .int .i64 a3, .int .i64 a4, .int .i64 a5, .int .i64 a6] from rfl]
      clear hB hSB hG hG1 hB1 hSB1 hG01 hd
      go_upto_region 4 with fail
      generalize w1.alloc (.cells #[.int .i64 a0, .int .i64 a1, .int .i64 a2, .int .i64 a3, .int .i64 a4, .int .i64 a5, .int .i64 a6] 42) = w2 at hN2 hB2 hSB2 hG02 ⊢
      generalize w1.heap.size = g at hN2 hl1 hs1 ⊢
      go_wp2_with (refine wpList_load_row rfl 42 _ rfl g rfl 42 #[.int .i64 a0, .int .i64 a1, .int .i64 a2, .int .i64 a3, .int .i64 a4, .int .i64 a5, .int .i64 a6] (0, 0) _ hN2 Try.underlying42 rfl (de_info ⟨a0, a1, a2, a3, a4, a5, a6⟩) ?_)
      refine (hC.out _).mono ?_; rintro e w3 ⟨rfl, hG3⟩
      have hN3 := hN2.quiet hG3
      have hB3 := hB2.quiet hG3
      have hSB3 := hSB2.quiet hG3
      have hG03 := hG02.trans0 hG3
      clear hN2 hB2 hSB2 hG02 hG3 hC
      rcases hd01 with rfl | rfl
      · go_wp2_with (first | (refine wpList_load_row rfl 42 _ rfl g rfl 42 #[.int .i64 a0, .int .i64 a1, .int .i64 a2, .int .i64 a3, .int .i64 a4, .int .i64 a5, .int .i64 a6] (0, 0) _ hN3 Try.underlying42 rfl (de_info ⟨a0, a1, a2, a3, a4, a5, a6⟩) ?_) | (refine wpList_store_row rfl 42 _ _ rfl w.heap.size #[.int .i64 a0, .int .i64 a1, .int .i64 a2, .int .i64 a3, .int .i64 a4, .int .i64 a5, .int .i64 a6] rfl rfl 42 _ hB3 (de_info ⟨a0, a1, a2, a3, a4, a5, a6⟩) rfl (de_one ⟨a0, a1, a2, a3, a4, a5, a6⟩) ?_))
        refine bodyPost_ret (results_cell_row rfl _ _ w.heap.size 42 #[.int .i64 a0, .int .i64 a1, .int .i64 a2, .int .i64 a3, .int .i64 a4, .int .i64 a5, .int .i64 a6] (0, 0) _ rfl (hB3.setRow _) Try.underlying42 rfl (de_info ⟨a0, a1, a2, a3, a4, a5, a6⟩)) rfl ?_
        exact rdl_fin (x := ⟨a0, a1, a2, a3, a4, a5, a6⟩) hslt HD.out (hSB3.le (by have := HK.out; omega)) hG03
      · go_wp2_with fail
        go_roundw
        case rel => exact ⟨k + 1, by have := HK.out; omega, by go_num, hB3, hSB3.le (by omega), hG03⟩
        case measure => have := HK.out; simp [intOf]; omega
    · obtain rfl : k = 8 := by omega
      go_wp2_with (refine wpList_store_row rfl 42 _ _ rfl w.heap.size #[.int .i64 0, .int .i64 0, .int .i64 0, .int .i64 0, .int .i64 0, .int .i64 0, .int .i64 0] rfl rfl 42 _ hB (de_info ⟨0, 0, 0, 0, 0, 0, 0⟩) rfl (de_one ⟨0, 0, 0, 0, 0, 0, 0⟩) ?_)
      refine bodyPost_ret (results_cell_row rfl _ _ w.heap.size 42 #[.int .i64 0, .int .i64 0, .int .i64 0, .int .i64 0, .int .i64 0, .int .i64 0, .int .i64 0] (0, 0) _ rfl (hB.setRow _) Try.underlying42 rfl (de_info ⟨0, 0, 0, 0, 0, 0, 0⟩)) rfl ?_
      exact rdl_fin (x := ⟨0, 0, 0, 0, 0, 0, 0⟩) hslt (by simp [deE, inB]) (hSB.le (by omega)) hG
end Go.Proofs.Ytbddcbbjmgepnaa

/- Hires: lists of legs, hires compared; hired. -/
namespace Go.Proofs.Ytbddcbbjmgepnaa
open Go.RowKit

theorem lg_neq (x y : Lg) (w : World) : (binOp .neq 74 (.agg (lgC x)) (.agg (lgC y))).run Try.prog w = .ok (.bool (!(decide (x = y)))) w := by
  have ht : Try.prog.underlying 74 = some (.struct (Try.prog.fieldsOf 74)) := by kernel_rfl
  have hp : Try.prog.stoodInHeld 74 = false := by kernel_rfl
  rw [run_neq_struct, run_equalIn_agg w 9999 74 _ _ ht hp]
  obtain ⟨a, ⟨b, c, d, e⟩, f, g, h, i⟩ := x
  obtain ⟨a', ⟨b', c', d', e'⟩, f', g', h', i'⟩ := y
  simp [lgC, Try.underlying74, Try.underlying50, Try.underlying3, Try.underlying9, go_sem]
  have tl : ∀ u v : ByteArray, (u.toList = v.toList) ↔ u = v := fun u v => ⟨toList_ext, fun h => by rw [h]⟩
  simp only [tl]
  by_cases h1 : a = a'
  · by_cases h2 : b = b'
    · by_cases h3 : c = c'
      · by_cases h4 : d = d'
        · by_cases h5 : e = e'
          · by_cases h6 : f = f'
            · by_cases h7 : g = g'
              · by_cases h8 : h = h' <;> by_cases h9 : i = i' <;> simp [h1, h2, h3, h4, h5, h6, h7, h8, h9]
              · simp [h1, h2, h3, h4, h5, h6, h7]
            · simp [h1, h2, h3, h4, h5, h6]
          · simp [h1, h2, h3, h4, h5]
        · simp [h1, h2, h3, h4]
      · simp [h1, h2, h3]
    · simp [h1, h2]
  · simp [h1]
def EqlRel (l m : List Lg) (w : World) (i : Value) (wr : World) : Prop := ∃ k n : Nat, k ≤ l.length ∧ i = .int .i64 k ∧ l.take k = m.take k ∧ wr = w.drewN n
theorem take_succ_lg {l m : List Lg} {k : Nat} {x : Lg} (h : l.take k = m.take k) (hx : l[k]? = some x) (hy : m[k]? = some x) : l.take (k + 1) = m.take (k + 1) := by
  rw [List.take_add_one, List.take_add_one, h, hx, hy]
theorem wi_eql (x y : Int) (w : World) : (binOp .eql 27 (.agg #[.int .i64 x, .int .i64 y]) (.agg #[.int .i64 x, .int .i64 y])).run Try.prog w = .ok (.bool true) w := by
  have ht : Try.prog.underlying 27 = some (.struct (Try.prog.fieldsOf 27)) := by kernel_rfl
  have hp : Try.prog.stoodInHeld 27 = false := by kernel_rfl
  rw [run_eql_struct, run_equalIn_agg w 9999 27 _ _ ht hp]
  simp [Try.underlying27, Try.underlying3, go_sem]
def h1K : Hh := (⟨#[104]⟩, ⟨#[100]⟩, 5, 9)
def h1R : Rg := (5, ⟨#[115]⟩, 0, 0)
theorem h1_ok : hiE h1K [(⟨#[118]⟩, h1R, noIn)] = 0 := by decide +kernel
set_option maxRecDepth 100000 in
set_option maxHeartbeats 2000000 in
theorem start1_c (w : World) : Calls Try.prog 12 #[.string ⟨#[104]⟩, .string ⟨#[100]⟩, .agg #[.int .i64 5, .int .i64 9], .string ⟨#[118]⟩, .agg #[.int .i64 5, .string ⟨#[115]⟩, .int .i64 0, .int .i64 0]] w
    fun e w' => ∃ a c, e = .returned (.tuple #[.agg #[.string ⟨#[104]⟩, .string ⟨#[100]⟩, .int .i64 5, .int .i64 9, .slice a 1 c], .int .i64 0]) ∧ G w w' none := by
  refine (start_c h1K ⟨#[118]⟩ h1R w (small_of (by decide)) (small_of (by decide)) (small_of (by decide)) (small_of (by decide)) (by unfold bnd h1K; dsimp only; omega) (by unfold bnd h1K; dsimp only; omega)).mono ?_
  rintro e w' ⟨H, a, n, c, rfl, hH, -, hR, hG⟩
  rw [h1_ok] at hH hR
  obtain rfl : H = h1K := hH
  obtain ⟨a', c', hv, -, -⟩ := RdR.form hR
  obtain rfl : n = 1 := by cases hv; rfl
  exact ⟨a, c, by rw [h1_ok]; rfl, hG⟩
end Go.Proofs.Ytbddcbbjmgepnaa

/- Odds: the numbers of cases, reckoned as the program does. No program. -/
namespace Go.Proofs.Ytbddcbbjmgepnaa
open Go.RowKit

/-- The new numbers of cases after j of the old ones were spread. -/
def nx (c : List Int) (p : Int) : Nat → List Int
  | 0 => List.replicate (c.length + 1) 0
  | j + 1 => ((nx c p j).set j ((nx c p j).getD j 0 + c.getD j 0 * (100 - p))).set (j + 1) ((nx c p j).getD (j + 1) 0 + c.getD j 0 * p)
def cas (ps : List Int) : List Int := ps.foldl (fun c p => nx c p c.length) [1]
theorem nx_len (c : List Int) (p : Int) (j : Nat) : (nx c p j).length = c.length + 1 := by
  induction j with
  | zero => simp [nx]
  | succ j ih => simp [nx, ih]
theorem sum_set (l : List Int) : ∀ (i : Nat) (v : Int), i < l.length → (l.set i v).sum = l.sum + (v - l.getD i 0) := by
  induction l with
  | nil => intro i v h; simp at h
  | cons x r ih =>
    intro i v h
    cases i with
    | zero => simp; omega
    | succ i =>
      have := ih i v (by simpa using h)
      simp only [List.set_cons_succ, List.sum_cons, List.getD_cons_succ]
      omega
theorem gdset_ne (l : List Int) (i j : Nat) (v : Int) (h : i ≠ j) : (l.set i v).getD j 0 = l.getD j 0 := by
  simp [List.getD, h]
theorem take_sum (c : List Int) (j : Nat) (h : j < c.length) : (c.take (j + 1)).sum = (c.take j).sum + c.getD j 0 := by
  rw [List.take_succ_eq_append_getElem h, List.sum_append]
  simp [List.getD, h]
theorem nx_sum (c : List Int) (p : Int) (j : Nat) (h : j ≤ c.length) : (nx c p j).sum = 100 * (c.take j).sum := by
  induction j with
  | zero => simp [nx]
  | succ j ih =>
    have hl := nx_len c p j
    unfold nx
    rw [sum_set _ _ _ (by rw [List.length_set, hl]; omega), sum_set _ _ _ (by rw [hl]; omega), gdset_ne _ _ _ _ (by omega), ih (by omega), take_sum c j (by omega)]
    have : c.getD j 0 * (100 - p) + c.getD j 0 * p = 100 * c.getD j 0 := by rw [← Int.mul_add]; rw [show (100 - p + p : Int) = 100 by omega, Int.mul_comm]
    omega
def NN (c : List Int) : Prop := ∀ x ∈ c, 0 ≤ x
theorem NN.getD {c : List Int} (h : NN c) (j : Nat) : 0 ≤ c.getD j 0 := by
  unfold List.getD
  cases hc : c[j]? with
  | none => exact Int.le_refl 0
  | some x => exact h x (List.mem_of_getElem? hc)
theorem NN.set {c : List Int} (h : NN c) (i : Nat) {v : Int} (hv : 0 ≤ v) : NN (c.set i v) := fun x hx => by
  rcases List.mem_or_eq_of_mem_set hx with hx | rfl
  · exact h x hx
  · exact hv
theorem nx_nn {c : List Int} {p : Int} (hc : NN c) (h0 : 0 ≤ p) (h1 : p ≤ 100) (j : Nat) : NN (nx c p j) := by
  induction j with
  | zero => intro x hx; have := List.eq_of_mem_replicate hx; omega
  | succ j ih =>
    unfold nx
    refine NN.set (NN.set ih j ?_) (j + 1) ?_
    · exact Int.add_nonneg (ih.getD j) (Int.mul_nonneg (hc.getD j) (by omega))
    · exact Int.add_nonneg (ih.getD (j + 1)) (Int.mul_nonneg (hc.getD j) h0)
theorem NN.sum {c : List Int} (h : NN c) : 0 ≤ c.sum := by
  induction c with
  | nil => exact Int.le_refl 0
  | cons x r ih =>
    have h1 := h x (List.mem_cons_self ..)
    have h2 := ih fun y hy => h y (List.mem_cons_of_mem _ hy)
    simp only [List.sum_cons]
    omega
theorem NN.le_sum {c : List Int} (h : NN c) (j : Nat) : c.getD j 0 ≤ c.sum := by
  induction c generalizing j with
  | nil => simp
  | cons x r ih =>
    have h1 := h x (List.mem_cons_self ..)
    have hr : NN r := fun y hy => h y (List.mem_cons_of_mem _ hy)
    have h2 := hr.sum
    cases j with
    | zero => simp only [List.getD_cons_zero, List.sum_cons]; omega
    | succ j =>
      have := ih hr j
      simp only [List.getD_cons_succ, List.sum_cons]
      omega
theorem cas_snoc (ps : List Int) (p : Int) : cas (ps ++ [p]) = nx (cas ps) p (cas ps).length := by
  unfold cas
  rw [List.foldl_append]
  rfl
theorem cas_ok (ps : List Int) (h : ∀ p ∈ ps, 0 ≤ p ∧ p ≤ 100) : (cas ps).length = ps.length + 1 ∧ NN (cas ps) ∧ (cas ps).sum = 100 ^ ps.length := by
  have key : ∀ (n : Nat) (ps : List Int), ps.length = n → (∀ p ∈ ps, 0 ≤ p ∧ p ≤ 100) → (cas ps).length = ps.length + 1 ∧ NN (cas ps) ∧ (cas ps).sum = 100 ^ ps.length := by
    intro n
    induction n with
    | zero =>
      intro ps hn _
      obtain rfl := List.eq_nil_of_length_eq_zero hn
      refine ⟨rfl, ?_, rfl⟩
      intro x hx
      have := List.mem_singleton.1 (show x ∈ [1] from hx)
      omega
    | succ n ih =>
      intro ps hn h
      obtain ⟨qs, p, rfl⟩ : ∃ qs p, ps = qs ++ [p] := ⟨ps.dropLast, ps.getLast (by intro e; rw [e] at hn; simp at hn), (List.dropLast_concat_getLast _).symm⟩
      simp at hn
      obtain ⟨h1, h2, h3⟩ := ih qs hn (fun q hq => h q (by simp [hq]))
      obtain ⟨p0, p1⟩ := h p (by simp)
      rw [cas_snoc]
      refine ⟨by rw [nx_len, h1]; simp, nx_nn h2 p0 p1 _, ?_⟩
      rw [nx_sum _ _ _ (Nat.le_refl _), List.take_length, h3, List.length_append, List.length_singleton, Int.pow_succ, Int.mul_comm]
  exact key ps.length ps rfl h
/-- A row of ints. -/
def ic (l : List Int) : Array Value := (l.map (Value.int .i64)).toArray
theorem ic_at (l : List Int) (j : Nat) (h : j < l.length) : (ic l)[j]? = some (.int .i64 (l.getD j 0)) := by
  simp [ic, List.getD, h]
theorem ic_set (l : List Int) (j : Nat) (v : Int) : (ic l).setIfInBounds j (.int .i64 v) = ic (l.set j v) := by
  simp [ic, List.map_set]
theorem ic_size (l : List Int) : (ic l).size = l.length := by simp [ic]
end Go.Proofs.Ytbddcbbjmgepnaa

/- Bookings: checkForm; the reference's BookingForm. -/
namespace Go.Proofs.Ytbddcbbjmgepnaa
open Go.RowKit

/-- A booking: key, class, from, to, made, percent. -/
abbrev Bo := ByteArray × ByteArray × Int × Int × Int × Int
def boC (x : Bo) : Array Value := #[.string x.1, .string x.2.1, .int .i64 x.2.2.1, .int .i64 x.2.2.2.1, .int .i64 x.2.2.2.2.1, .int .i64 x.2.2.2.2.2]
theorem boC_sz (x : Bo) : (boC x).size = 6 := rfl
theorem bo_info (x : Bo) : (Try.prog.info? 110).map (·.size) = some (boC x).size := (by kernel_rfl : (Try.prog.info? 110).map (·.size) = some 6)
def boB (x : Bo) : Prop := Small x.1 ∧ Small x.2.1 ∧ bnd x.2.2.1 ∧ bnd x.2.2.2.1 ∧ bnd x.2.2.2.2.1 ∧ bnd x.2.2.2.2.2
def BoOk (l : List Bo) : Prop := ∀ x ∈ l, boB x
def boT (a z m p : Int) : Bool := timB a z && (inB m 0 a && inB p 0 100)
def boErr (b : ByteArray) : List Bo → Int
  | [] => 0
  | x :: r => if keyB x.1 = false then 5 else if keyB x.2.1 = false then 5 else if leB x.1 b = true then 7 else if boT x.2.2.1 x.2.2.2.1 x.2.2.2.2.1 x.2.2.2.2.2 = false then 1 else boErr x.1 r
def boE (l : List Bo) : Int := if 500 < l.length then 2 else boErr ⟨#[]⟩ l
def BoRel (w : World) (l : List Bo) (v i : Value) (wr : World) : Prop :=
  ∃ (k : Nat) (b : ByteArray), k ≤ l.length ∧ i = .int .i64 k ∧ v = .string b ∧ boErr ⟨#[]⟩ l = boErr b (l.drop k) ∧ G w wr none
theorem boRow {W w : World} {bb bo n cap : Nat} {l : List Bo} (h : RdR W 6 boC (.slice (some ⟨bb, bo, none⟩) n cap) l) (hG : G W w none) {k : Nat} {p : Bo} (hp : l[k]? = some p) :
    ∀ j v, (boC p).toList[j]? = some v → w.cell? ((⟨bb, bo + k * 6, none⟩ : Addr).add j) = some v := fun j v hv => by
  rw [add_at]
  exact RdR.cell boC_sz h hG hp j v hv
theorem boTime {w : World} {g : Nat} {T : TypeId} {p : Bo} (h : Bk w g T (boC p)) : ∀ j v, (#[Value.int .i64 p.2.2.1, .int .i64 p.2.2.2.1] : Array Value).toList[j]? = some v → w.cell? ((⟨g, 2, none⟩ : Addr).add j) = some v := fun j v hv => by
  rw [add_at, h.cell]
  match j, hv with
  | 0, hv => exact hv
  | 1, hv => exact hv
  | n + 2, hv => simp at hv
set_option maxRecDepth 100000 in
set_option maxHeartbeats 4000000 in
theorem checkForm_c (v : Value) (l : List Bo) (w : World) (hr : RdR w 6 boC v l) (hl : BoOk l) (hn : l.length ≤ 1000) :
    Calls Try.prog 65 #[v] w fun e w' => e = .returned (.int .i64 (boE l)) ∧ G w w' none := by
  have HR := Lib.hid hr
  obtain ⟨a, cap, rfl, hcap, hm⟩ := RdR.form hr
  clear hr
  by_cases h30 : 500 < l.length
  · have H := Lib.hid (show boE l = 2 by simp [boE, h30])
    go_enter Try.func65, Try.ntmps65
    go_wp2_with fail
    go_ret
    exact ⟨by rw [H.out]; rfl, G.refl _ _⟩
  · have H := Lib.hid (show boE l = boErr ⟨#[]⟩ l by simp [boE, h30])
    go_enter Try.func65, Try.ntmps65
    go_wp2_with fail
    go_loopw [3, 11] (BoRel w l) (fun _ i _ => l.length - (intOf i).toNat)
    case atStart => exact ⟨0, ⟨#[]⟩, by omega, rfl, rfl, rfl, G.refl _ _⟩
    case round =>
      obtain ⟨k, b, hkl, rfl, rfl, heq, hG⟩ := hrel
      have HE := Lib.hid heq
      clear heq
      by_cases hk : k < l.length
      · obtain ⟨p, hp⟩ : ∃ p, l[k]? = some p := ⟨_, List.getElem?_eq_getElem hk⟩
        have hdrop : l.drop k = p :: l.drop (k + 1) := by rw [List.drop_eq_getElem_cons hk, ← (List.getElem?_eq_some_iff.1 hp).2]
        have hpl := hl p (List.mem_of_getElem? hp)
        obtain ⟨bb, bo, rfl, hbb, _⟩ := RdR.elem boC_sz HR.out hG hp
        have HW := Lib.hid (boRow HR.out hG hp)
        have hs1 := hpl.1
        have hs2 := hpl.2.1
        unfold Small at hs1 hs2
        have HS : Hid (boErr b (l.drop k) = if keyB p.1 = false then 5 else if keyB p.2.1 = false then 5 else if leB p.1 b = true then 7 else if boT p.2.2.1 p.2.2.2.1 p.2.2.2.2.1 p.2.2.2.2.2 = false then 1 else boErr p.1 (l.drop (k + 1))) := Lib.hid (by rw [hdrop]; rfl)
        have hB5 := Bk.new wr 110 (boC p)
        have hG5 := hG.alloc (.cells (boC p) 110)
        clear hdrop hp hpl hG
        go_wp2_with (refine wpList_load_at rfl 110 _ rfl ⟨bb, bo + k * 6, none⟩ rfl #[.string p.1, .string p.2.1, .int .i64 p.2.2.1, .int .i64 p.2.2.2.1, .int .i64 p.2.2.2.2.1, .int .i64 p.2.2.2.2.2] _ HW.out Try.underlying110 rfl (bo_info p) ?_)
        have hB5 : Bk (wr.alloc (.cells #[.string p.1, .string p.2.1, .int .i64 p.2.2.1, .int .i64 p.2.2.2.1, .int .i64 p.2.2.2.2.1, .int .i64 p.2.2.2.2.2] 110)) wr.heap.size 110 (boC p) := hB5
        have hG5 : G w (wr.alloc (.cells #[.string p.1, .string p.2.1, .int .i64 p.2.2.1, .int .i64 p.2.2.2.1, .int .i64 p.2.2.2.2.1, .int .i64 p.2.2.2.2.2] 110)) none := hG5
        have hg5 := hB5.lt
        generalize wr.alloc (.cells #[.string p.1, .string p.2.1, .int .i64 p.2.2.1, .int .i64 p.2.2.2.1, .int .i64 p.2.2.2.2.1, .int .i64 p.2.2.2.2.2] 110) = w5 at hB5 hG5 hg5 ⊢
        generalize wr.heap.size = g at hB5 hg5 ⊢
        refine (isKey_c _ _ hs1).mono ?_; rintro e w1 ⟨rfl, rfl⟩
        have c0 : World.cell? w5 ⟨g, 0, none⟩ = some (.string p.1) := hB5.cell 0
        have c1 : World.cell? w5 ⟨g, 1, none⟩ = some (.string p.2.1) := hB5.cell 1
        have c2 : World.cell? w5 ⟨g, 2, none⟩ = some (.int .i64 p.2.2.1) := hB5.cell 2
        have c3 : World.cell? w5 ⟨g, 3, none⟩ = some (.int .i64 p.2.2.2.1) := hB5.cell 3
        have c4 : World.cell? w5 ⟨g, 4, none⟩ = some (.int .i64 p.2.2.2.2.1) := hB5.cell 4
        have c5 : World.cell? w5 ⟨g, 5, none⟩ = some (.int .i64 p.2.2.2.2.2) := hB5.cell 5
        cases hkb : keyB p.1 with
        | false =>
          have HF : Hid (boE l = 5) := Lib.hid (by rw [H.out, HE.out, HS.out, if_pos hkb])
          clear hkb
          go_wp2_with fail
          go_ret
          exact ⟨by rw [HF.out]; rfl, hG5⟩
        | true =>
          have HK := Lib.hid hkb
          clear hkb
          go_wp2_with fail
          refine (isKey_c _ _ hs2).mono ?_; rintro e w1 ⟨rfl, rfl⟩
          cases hkb : keyB p.2.1 with
          | false =>
            have HF : Hid (boE l = 5) := Lib.hid (by rw [H.out, HE.out, HS.out, if_neg (by simp [HK.out]), if_pos hkb])
            clear hkb
            go_wp2_with fail
            go_ret
            exact ⟨by rw [HF.out]; rfl, hG5⟩
          | true =>
            have HK2 := Lib.hid hkb
            clear hkb
            cases hle : leB p.1 b with
            | true =>
              have HF : Hid (boE l = 7) := Lib.hid (by rw [H.out, HE.out, HS.out, if_neg (by simp [HK.out]), if_neg (by simp [HK2.out]), if_pos hle])
              unfold leB at hle
              go_wp2_with fail
              go_ret
              exact ⟨by rw [HF.out]; rfl, hG5⟩
            | false =>
              have HS2 : Hid (boErr ⟨#[]⟩ l = if boT p.2.2.1 p.2.2.2.1 p.2.2.2.2.1 p.2.2.2.2.2 = false then 1 else boErr p.1 (l.drop (k + 1))) := Lib.hid (by rw [HE.out, HS.out, if_neg (by simp [HK.out]), if_neg (by simp [HK2.out]), if_neg (by simp [hle])])
              unfold leB at hle
              clear HS HE
              have HT := Lib.hid (boTime hB5)
              go_wp2_with (refine wpList_load_at rfl 27 _ rfl ⟨g, 2, none⟩ rfl #[.int .i64 p.2.2.1, .int .i64 p.2.2.2.1] _ HT.out Try.underlying27 rfl (wi_info _ _) ?_)
              refine (isTime_c _ _ _).mono ?_; rintro e w2 ⟨rfl, hG2⟩
              have hB5 := hB5.quiet hG2
              have hG5 := hG5.trans hG2
              clear hG2 HT c0 c1 c2 c3 c4 c5
              have c0 : w2.cell? ⟨g, 0, none⟩ = some (.string p.1) := hB5.cell 0
              have c1 : w2.cell? ⟨g, 1, none⟩ = some (.string p.2.1) := hB5.cell 1
              have c2 : w2.cell? ⟨g, 2, none⟩ = some (.int .i64 p.2.2.1) := hB5.cell 2
              have c3 : w2.cell? ⟨g, 3, none⟩ = some (.int .i64 p.2.2.2.1) := hB5.cell 3
              have c4 : w2.cell? ⟨g, 4, none⟩ = some (.int .i64 p.2.2.2.2.1) := hB5.cell 4
              have c5 : w2.cell? ⟨g, 5, none⟩ = some (.int .i64 p.2.2.2.2.2) := hB5.cell 5
              cases ht : timB p.2.2.1 p.2.2.2.1 with
              | false =>
                have HF : Hid (boE l = 1) := Lib.hid (by rw [H.out, HS2.out, if_pos (by simp [boT, ht])])
                go_wp2_with fail
                go_ret
                exact ⟨by rw [HF.out]; rfl, hG5⟩
              | true =>
                have HTB := Lib.hid ht
                clear ht
                go_wp2_with fail
                refine (within_c _ _ _ _).mono ?_; rintro e w' ⟨rfl, rfl⟩
                cases hm1 : inB p.2.2.2.2.1 0 p.2.2.1 with
                | false =>
                  have HF : Hid (boE l = 1) := Lib.hid (by rw [H.out, HS2.out, if_pos (by simp [boT, hm1])])
                  go_wp2_with fail
                  go_ret
                  exact ⟨by rw [HF.out]; rfl, hG5⟩
                | true =>
                  have HM := Lib.hid hm1
                  clear hm1
                  go_wp2_with fail
                  refine (within_c _ _ _ _).mono ?_; rintro e w' ⟨rfl, rfl⟩
                  cases hp1 : inB p.2.2.2.2.2 0 100 with
                  | false =>
                    have HF : Hid (boE l = 1) := Lib.hid (by rw [H.out, HS2.out, if_pos (by simp [boT, hp1])])
                    go_wp2_with fail
                    go_ret
                    exact ⟨by rw [HF.out]; rfl, hG5⟩
                  | true =>
                    have HF : Hid (boErr ⟨#[]⟩ l = boErr p.1 (l.drop (k + 1))) := Lib.hid (by rw [HS2.out, if_neg (by simp [boT, HTB.out, HM.out, hp1])])
                    clear hp1
                    go_wp2_with fail
                    go_roundw
                    case rel => exact ⟨k + 1, p.1, by omega, by go_num, rfl, HF.out, hG5⟩
                    case measure => simp [intOf]; omega
      · obtain rfl : k = l.length := by omega
        have HE2 : Hid (boE l = 0) := Lib.hid (by rw [H.out, HE.out, List.drop_length]; rfl)
        go_wp2_with fail
        go_ret
        exact ⟨by rw [HE2.out]; rfl, hG⟩
end Go.Proofs.Ytbddcbbjmgepnaa

/- Tiers: CheckTiers; the reference's TiersFault. -/
namespace Go.Proofs.Ytbddcbbjmgepnaa
open Go.RowKit

/-- A tier: before, permille. -/
abbrev Ti := Int × Int
def tiC (x : Ti) : Array Value := #[.int .i64 x.1, .int .i64 x.2]
theorem tiC_sz (x : Ti) : (tiC x).size = 2 := rfl
def TiOk (l : List Ti) : Prop := ∀ x ∈ l, bnd x.1 ∧ bnd x.2
def tiAfter (b : Option Ti) (x : Ti) : Bool := match b with | none => false | some y => decide (y.1 ≤ x.1) || decide (x.2 < y.2)
def tiErr : Option Ti → List Ti → Int
  | _, [] => 0
  | b, x :: r => if inB x.1 1 5761440 = false then 1 else if inB x.2 0 1000 = false then 1 else if tiAfter b x = true then 7 else tiErr (some x) r
def tiE (l : List Ti) : Int := if 10 < l.length then 2 else tiErr none l
def TiRel (w : World) (l : List Ti) (i : Value) (wr : World) : Prop :=
  ∃ k : Nat, k ≤ l.length ∧ i = .int .i64 k ∧ tiErr none l = tiErr (prevAt l k) (l.drop k) ∧ G w wr none
theorem tiRow {W w : World} {bb bo n cap : Nat} {l : List Ti} (h : RdR W 2 tiC (.slice (some ⟨bb, bo, none⟩) n cap) l) (hG : G W w none) {k : Nat} {p : Ti} (hp : l[k]? = some p) :
    ∀ j v, (tiC p).toList[j]? = some v → w.cell? ((⟨bb, bo + k * 2, none⟩ : Addr).add j) = some v := fun j v hv => by
  rw [add_at]
  exact RdR.cell tiC_sz h hG hp j v hv
end Go.Proofs.Ytbddcbbjmgepnaa

/- CancelFee; the reference's CancelOf. -/
namespace Go.Proofs.Ytbddcbbjmgepnaa
open Go.RowKit

/-- The permille of the last tier that is meant. -/
def cnS (d a : Int) (x : Ti) : Int := if d < x.1 then x.2 else a
def cnP (l : List Ti) (d : Int) : Int := l.foldl (cnS d) 0
theorem cnP_succ {l : List Ti} {k : Nat} {p : Ti} (d : Int) (hp : l[k]? = some p) : cnP (l.take (k + 1)) d = cnS d (cnP (l.take k) d) p := by
  have hk : k < l.length := (List.getElem?_eq_some_iff.1 hp).1
  have e : l.take (k + 1) = l.take k ++ [p] := by
    rw [List.take_succ_eq_append_getElem hk, (List.getElem?_eq_some_iff.1 hp).2]
  unfold cnP
  rw [e, List.foldl_append]
  rfl
theorem cnP_rng {l : List Ti} (h : ∀ x ∈ l, 0 ≤ x.2 ∧ x.2 ≤ 1000) (d : Int) : 0 ≤ cnP l d ∧ cnP l d ≤ 1000 := by
  have : ∀ (r : List Ti) (a : Int), (∀ x ∈ r, 0 ≤ x.2 ∧ x.2 ≤ 1000) → 0 ≤ a ∧ a ≤ 1000 → 0 ≤ r.foldl (cnS d) a ∧ r.foldl (cnS d) a ≤ 1000 := by
    intro r
    induction r with
    | nil => intro a _ ha; exact ha
    | cons x r ih =>
      intro a hx ha
      refine ih _ (fun y hy => hx y (List.mem_cons_of_mem _ hy)) ?_
      unfold cnS
      split
      · exact hx x (List.mem_cons_self ..)
      · exact ha
  exact this l 0 h (by omega)
theorem tiErr_ok {l : List Ti} : ∀ {b : Option Ti}, tiErr b l = 0 → ∀ x ∈ l, 0 ≤ x.2 ∧ x.2 ≤ 1000 := by
  induction l with
  | nil => intro b _ x hx; cases hx
  | cons y r ih =>
    intro b h
    unfold tiErr at h
    split at h
    · exact absurd h (by decide)
    · split at h
      · exact absurd h (by decide)
      · rename_i h2
        split at h
        · exact absurd h (by decide)
        · intro x hx
          rcases List.mem_cons.1 hx with rfl | hx
          · simp only [inB, Bool.not_eq_false, Bool.and_eq_true, decide_eq_true_eq] at h2
            omega
          · exact ih h x hx
theorem tiE_ok {l : List Ti} (h : tiE l = 0) : ∀ x ∈ l, 0 ≤ x.2 ∧ x.2 ≤ 1000 := by
  unfold tiE at h
  split at h
  · exact absurd h (by decide)
  · exact tiErr_ok h
theorem boE_ok {b : Bo} (h : boE [b] = 0) : 0 ≤ b.2.2.1 ∧ b.2.2.1 < 5761440 := by
  have h1 : boErr ⟨#[]⟩ [b] = 0 := h
  unfold boErr at h1
  split at h1
  · exact absurd h1 (by decide)
  · split at h1
    · exact absurd h1 (by decide)
    · split at h1
      · exact absurd h1 (by decide)
      · split at h1
        · exact absurd h1 (by decide)
        · rename_i h2
          simp only [boT, Bool.not_eq_false, Bool.and_eq_true] at h2
          have := (timB_iff _ _).1 h2.1
          omega
theorem one_len (b : Bo) : ([b] : List Bo).length ≤ 1000 := by simp
theorem RdR.one {w : World} {g : Nat} {b : Bo} (h : Bk w g 110 (boC b)) : RdR w 6 boC (.slice (some ⟨g, 0, none⟩) 1 1) [b] := h.rd 6 1 rfl (by omega)
theorem BoOk.one {b : Bo} (h : boB b) : BoOk [b] := fun x hx => by
  obtain rfl := List.mem_singleton.1 hx
  exact h
def cfE (l : List Ti) (b : Bo) (c t : Int) : Int := if tiE l = 0 then (if boE [b] = 0 then (if inB c 0 1000000000 = false then 1 else if momB t = false then 1 else 0) else boE [b]) else tiE l
def cfN (l : List Ti) (b : Bo) (c t : Int) : Int := if cfE l b c t = 0 then c * cnP l (b.2.2.1 - t) / 1000 else 0
def CfRel (w : World) (l : List Ti) (d : Int) (g : Nat) (b : Bo) (s i : Value) (wr : World) : Prop :=
  ∃ k : Nat, k ≤ l.length ∧ i = .int .i64 k ∧ s = .int .i64 (cnP (l.take k) d) ∧ Bk wr g 110 (boC b) ∧ G w wr none
def CcoRel (w : World) (l : List Ti) (d c : Int) (g : Nat) (b : Bo) (s i : Value) (wr : World) : Prop :=
  ∃ k : Nat, k ≤ l.length ∧ i = .int .i64 k ∧ s = .int .i64 (c * cnP (l.take k) d / 1000) ∧ Bk wr g 110 (boC b) ∧ G w wr none
end Go.Proofs.Ytbddcbbjmgepnaa

/- basic.Lowest. -/
namespace Go.Proofs.Ytbddcbbjmgepnaa
open Go.RowKit

def frC (a b : Int) : Array Value := #[.int .i64 a, .int .i64 b]
theorem fr_info (a b : Int) : (Try.prog.info? 101).map (·.size) = some (frC a b).size := (by kernel_rfl : (Try.prog.info? 101).map (·.size) = some 2)
theorem fr_one (a b : Int) : (frC a b).all (·.oneCell') = true := by simp [frC, Value.oneCell']
theorem quo_wrap (n a q : Nat) (hn : n ≤ 1000000000000000000) (hq : n / a = q) : IntKind.i64.wrap ((n : Int) / (a : Int)) = (q : Int) := by
  have h2 : q ≤ n := by rw [← hq]; exact Nat.div_le_self n a
  have h1 : (n : Int) / (a : Int) = (q : Int) := by rw [← hq]; rfl
  rw [h1, IntKind.wrap_i64]
  omega
def LowRel (n d : Nat) (s5 s6 : Value) (w wr : World) : Prop :=
  ∃ a b : Nat, s5 = .int .i64 a ∧ s6 = .int .i64 b ∧ Nat.gcd a b = Nat.gcd d n ∧ a ≤ 1000000000000000000 ∧ b ≤ 1000000000000000000 ∧ 0 < a ∧ Bk wr w.heap.size 101 (frC 0 0) ∧ G w wr none
set_option maxRecDepth 100000 in
set_option maxHeartbeats 2000000 in
theorem lowest_c (n d : Nat) (w : World) (hn : n ≤ 1000000000000000000) (hd : d ≤ 1000000000000000000) (h0 : 0 < d) :
    Calls Try.prog 53 #[.int .i64 n, .int .i64 d] w fun e w' => e = .returned (.agg (frC (n / Nat.gcd d n : Nat) (d / Nat.gcd d n : Nat))) ∧ G w w' none := by
  go_enter Try.func53, Try.ntmps53
  go_wp2_with fail
  go_loopw [5, 6] (fun s5 s6 wr => LowRel n d s5 s6 w wr) (fun _ i _ => (intOf i).toNat)
  case atStart => exact ⟨d, n, rfl, rfl, rfl, hd, hn, h0, Bk.new w _ _, (G.refl _ _).alloc _⟩
  case round =>
    obtain ⟨a, b, rfl, rfl, hg, ha, hb, a0, hB, hG⟩ := hrel
    have HG := Lib.hid hg
    clear hg
    by_cases hb0 : b = 0
    · subst hb0
      have hag : a = Nat.gcd d n := by rw [← HG.out]; simp
      have HA := Lib.hid hag
      clear hag
      obtain ⟨q1, hq1⟩ : ∃ q, n / a = q := ⟨_, rfl⟩
      obtain ⟨q2, hq2⟩ : ∃ q, d / a = q := ⟨_, rfl⟩
      have hane : ¬ a = 0 := by omega
      have hw1 := quo_wrap n a q1 hn hq1
      have hw2 := quo_wrap d a q2 hd hq2
      have HQ1 := Lib.hid hq1
      have HQ2 := Lib.hid hq2
      clear hq1 hq2
      go_wp2_with fail
      have HQQ : Hid (Ending.returned (.agg (frC q1 q2)) = .returned (.agg (frC (n / Nat.gcd d n : Nat) (d / Nat.gcd d n : Nat)))) := Lib.hid (by rw [← HA.out, HQ1.out, HQ2.out])
      go_still_tail 7, (by kernel_rfl)
      change wpList _ _ _ _ _ wr.drew
      have hBd := hB.quiet ((G.refl wr none).drew)
      have hGd := hG.drew
      clear hB hG
      generalize wr.drew = w2 at hBd hGd ⊢
      go_wp2_with (refine wpList_store_row rfl 101 _ _ rfl w.heap.size (frC q1 q2) rfl rfl 101 _ hBd (fr_info q1 q2) rfl (fr_one q1 q2) ?_)
      refine bodyPost_ret (results_cell_row rfl _ _ w.heap.size 101 (frC q1 q2) (0, 0) _ rfl (hBd.setRow _) Try.underlying101 rfl (fr_info q1 q2)) rfl ?_
      exact ⟨HQQ.out, hGd.setRow (.inl (Nat.le_refl _)) _⟩
    · have hbp : 0 < b := by omega
      have hne : ((b : Int) != 0) = true := by rw [bne_iff_ne]; omega
      have hbq : ((b : Int) == 0) = false := by rw [beq_eq_false_iff_ne]; omega
      have htm : (a : Int).tmod (b : Int) = ((a % b : Nat) : Int) := by rw [Int.tmod_eq_emod_of_nonneg (by omega)]; rfl
      have hmw : IntKind.i64.wrap ((a % b : Nat) : Int) = ((a % b : Nat) : Int) := by have := Nat.mod_lt a hbp; rw [IntKind.wrap_i64]; omega
      have HML := Lib.hid (Nat.mod_lt a hbp)
      go_wp2_with fail
      go_quiet (fail)
      have hGq := hG.drewN nq
      have hBq := hB.drewN nq
      go_wp2_with fail
      go_roundw
      case rel => exact ⟨b, a % b, rfl, rfl, by rw [← HG.out, Nat.gcd_comm a b]; exact (Nat.gcd_rec b a).symm ▸ by rw [Nat.gcd_comm], hb, by have := HML.out; omega, hbp, hBq, hGq⟩
      case measure => have := HML.out; simp [intOf]; omega
end Go.Proofs.Ytbddcbbjmgepnaa
