/- Txn, Txo, Tmb, Bkf, Ext, Fee, Tir, Can, Low, Bkd, Lie, PrA, Rek, PrB, PrC, PrD, PrE, PrF, Txw, Lay. -/
import Derived.Test.YtkgkbjijiapcpaaDoorZt2
import Derived.Test.YtkgkbjijiapcpaaDoorZt1
import Derived.Deep.RegionHeld3
import Derived.IntWalk
import Derived.Laws.ResultCell
import Derived.StillTailTactics
import Derived.Laws.StructEq
import Derived.OrdersHeld
import Derived.Laws.AppendOwn
import Derived.LaidEqlPtr
import Derived.Deep.MidRow
import Derived.Test.YtkgkbjijiapcpaaDoorRows
import Derived.Test.YtkgkbjijiapcpaaDoorTie
import Derived.Test.YtkgkbjijiapcpaaDoorCards
import Derived.LaidMore
import Derived.ChangeSame
import Derived.ProofKit
import Derived.OpenShut
import Derived.PinnedBridge
import Derived.Deep.DeepHandedRow
import Derived.Deep.DeepWitnessRowRef
/- tariff.taxLines, TaxLines. Written by gentxn.py. -/
namespace Go.Proofs.YtkgkbjijiapcpaaDoor
open Go.RowKit

theorem mul_bnd9 {n p N : Int} (hN : 0 ≤ N) (hn : -N ≤ n ∧ n ≤ N) (hp : 0 ≤ p ∧ p ≤ 1000) : -(N * 1000) ≤ n * p ∧ n * p ≤ N * 1000 := by
  have h1 : n * p ≤ N * 1000 := by
    have a := Int.mul_le_mul_of_nonneg_right hn.2 hp.1
    have b := Int.mul_le_mul_of_nonneg_left hp.2 hN
    omega
  have h2 : -(N * 1000) ≤ n * p := by
    have a := Int.mul_le_mul_of_nonneg_right hn.1 hp.1
    have b := Int.mul_le_mul_of_nonneg_left hp.2 hN
    have c : -N * p = -(N * p) := by rw [Int.neg_mul]
    omega
  exact ⟨h2, h1⟩
theorem OwnX.apz {α : Type} {T T' : TypeId} {z g base : Nat} {c : α → Array Value} {w : World} {v : Value} {l : List α} {cs : Array Value} (h : OwnX T z c w base v l) (hB : Bk w g T' cs) (hT : T ≠ T') : some g ≠ v.ownBlock := by
  rcases h.2 with ⟨rfl, _⟩ | ⟨g', cap, cur, rfl, _, hg, _⟩
  · simp [Value.ownBlock]
  · intro e
    simp only [Value.ownBlock, Option.map_some, Option.some.injEq] at e
    subst e
    have h2 := hB.symm.trans hg
    simp only [Option.some.injEq, Obj.cells.injEq] at h2
    exact hT h2.2.1.symm
def LiK (l : List Li) : Prop := ∀ y ∈ l, 1 ≤ y.1 ∧ y.1 ≤ 6
theorem liErr_k : ∀ (l : List Li), liErr l = 0 → LiK l
  | [], _, p, hp => by cases hp
  | x :: r, h, p, hp => by
    unfold liErr at h
    split at h
    · omega
    · rename_i h1
      split at h
      · omega
      · split at h
        · omega
        · rcases List.mem_cons.1 hp with rfl | hp
          · simpa [inB] using h1
          · exact liErr_k r h p hp
theorem liE_k {l : List Li} (h : liE l = 0) : LiK l := by
  unfold liE at h
  split at h
  · omega
  · exact liErr_k l h
/-- The sums of all kinds. -/
def sumC (l : List Li) : Array Value := #[.int .i64 (kS 0 l), .int .i64 (kS 1 l), .int .i64 (kS 2 l), .int .i64 (kS 3 l), .int .i64 (kS 4 l), .int .i64 (kS 5 l), .int .i64 (kS 6 l)]
theorem sumC_cell {w : World} {g : Nat} {T : TypeId} {l : List Li} (h : Bk w g T (sumC l)) (k : Nat) (hk : k ≤ 6) : w.cell? ⟨g, k, none⟩ = some (.int .i64 (kS k l)) := by
  rcases (show k = 0 ∨ k = 1 ∨ k = 2 ∨ k = 3 ∨ k = 4 ∨ k = 5 ∨ k = 6 by omega) with rfl | rfl | rfl | rfl | rfl | rfl | rfl
  · exact h.cell 0
  · exact h.cell 1
  · exact h.cell 2
  · exact h.cell 3
  · exact h.cell 4
  · exact h.cell 5
  · exact h.cell 6
theorem sumC_set {w : World} {g : Nat} {T : TypeId} {l : List Li} (h : Bk w g T (sumC l)) (k : Nat) (hk : k ≤ 6) (a : ByteArray) (c : Int) : Bk (w.setCell ⟨g, k, none⟩ (.int .i64 (kS k l + c))) g T (sumC (l ++ [((k : Int), a, c)])) := by
  have h2 := h.set k (.int .i64 (kS k l + c))
  have e : (sumC l).setIfInBounds k (.int .i64 (kS k l + c)) = sumC (l ++ [((k : Int), a, c)]) := by
    unfold sumC
    simp only [kS_snoc]
    rcases (show k = 0 ∨ k = 1 ∨ k = 2 ∨ k = 3 ∨ k = 4 ∨ k = 5 ∨ k = 6 by omega) with rfl | rfl | rfl | rfl | rfl | rfl | rfl <;> simp
  rw [e] at h2
  exact h2
def SuRel (w : World) (gS : Nat) (l : List Li) (i : Value) (wr : World) : Prop :=
  ∃ k : Nat, k ≤ l.length ∧ i = .int .i64 k ∧ Bk wr gS 77 (sumC (l.take k)) ∧ G w wr none
def TlnRel (w : World) (gS : Nat) (T : List Tx) (l : List Li) (s8 i : Value) (wr : World) : Prop :=
  ∃ k : Nat, k ≤ T.length ∧ i = .int .i64 k ∧ OwnX 40 3 liC wr w.heap.size s8 (taxL l (T.take k)) ∧ Bk wr gS 77 (sumC l) ∧ G w wr none
def KsRel (w : World) (l : List Li) (ks : List Int) (s11 i : Value) (wr : World) : Prop :=
  ∃ k : Nat, k ≤ ks.length ∧ i = .int .i64 k ∧ s11 = .int .i64 (onS l (ks.take k)) ∧ w = wr
def TxGood (T : List Tx) : Prop := ∀ x ∈ T, (0 ≤ x.1.2.1 ∧ x.1.2.1 ≤ 1000) ∧ x.2.2.length ≤ 6 ∧ ∀ k ∈ x.2.2, 1 ≤ k ∧ k ≤ 6
theorem TxGood.of {T : List Tx} (h : txE T = 0) (ho : TxOk T) : TxGood T := fun x hx => ⟨(txE_ok h x hx).1, (ho x hx).2, fun k hk => ((onErr_ok (txE_ok h x hx).2).1 k hk).2⟩
set_option maxRecDepth 100000 in
set_option maxHeartbeats 8000000 in
theorem taxLines_c (v u : Value) (T : List Tx) (l : List Li) (w : World) (hT : TxR w v T) (hr : RdR w 3 liC u l) (hb : LiB l) (hk6 : LiK l) (hn : l.length ≤ 6) (hT3 : T.length ≤ 3) (hg : TxGood T) :
    Calls Tryd.prog 27 #[v, u] w fun e w' => ∃ v', e = .returned v' ∧ OwnX 40 3 liC w' w.heap.size v' (taxL l T) ∧ G w w' none := by
  obtain ⟨hT, hx⟩ := hT
  obtain ⟨a1, cap1, rfl, hcap1, hm1⟩ := RdR.form hT
  obtain ⟨a2, cap2, rfl, hcap2, hm2⟩ := RdR.form hr
  have HT := Lib.hid hT
  have HX := Lib.hid hx
  have HR := Lib.hid hr
  clear hT hx hr
  have hS := Bk.new w 77 (sumC [])
  have hG := (G.refl w none).alloc (.cells (sumC []) 77)
  go_enter Tryd.func27, Tryd.ntmps27
  go_upto_region 2 with fail
  have hS : Bk (w.alloc (.cells #[.int .i64 0, .int .i64 0, .int .i64 0, .int .i64 0, .int .i64 0, .int .i64 0, .int .i64 0] 77)) w.heap.size 77 (sumC []) := hS
  have hG : G w (w.alloc (.cells #[.int .i64 0, .int .i64 0, .int .i64 0, .int .i64 0, .int .i64 0, .int .i64 0, .int .i64 0] 77)) none := hG
  generalize w.alloc (.cells #[.int .i64 0, .int .i64 0, .int .i64 0, .int .i64 0, .int .i64 0, .int .i64 0, .int .i64 0] 77) = w1 at hS hG ⊢
  obtain ⟨gS, hgS⟩ : ∃ g, w.heap.size = g := ⟨_, rfl⟩
  have hgl : w.heap.size ≤ gS := by omega
  rw [hgS] at hS ⊢
  clear hgS
  go_wp2_with fail
  go_loopw [16] (SuRel w gS l) (fun i _ => l.length - (intOf i).toNat)
  case atStart => exact ⟨0, by omega, rfl, hS, hG⟩
  case round =>
    clear hS hG
    obtain ⟨k, hk, rfl, hS, hG⟩ := hrel
    by_cases hlt : k < l.length
    · obtain ⟨⟨ky, kx, cc⟩, hp⟩ : ∃ p, l[k]? = some p := ⟨_, List.getElem?_eq_getElem hlt⟩
      have hky := hk6 _ (List.mem_of_getElem? hp)
      have hcb := hb _ (List.mem_of_getElem? hp)
      dsimp only at hky hcb
      obtain ⟨y0, y1⟩ := hky
      obtain ⟨cb0, cb1⟩ := hcb
      obtain ⟨kn, rfl⟩ := Int.eq_ofNat_of_zero_le (show (0 : Int) ≤ ky by omega)
      have hkn : kn ≤ 6 := by omega
      have HTK : Hid (l.take (k + 1) = l.take k ++ [((kn : Int), kx, cc)]) := Lib.hid (by rw [List.take_add_one, hp]; rfl)
      have hsb := kS_bnd (l := l.take k) (fun x hx => hb x (List.mem_of_mem_take hx)) kn
      have htl : (l.take k).length ≤ 6 := by rw [List.length_take]; omega
      obtain ⟨s, hs⟩ : ∃ s, kS (kn : Int) (l.take k) = s := ⟨_, rfl⟩
      rw [hs] at hsb
      have hsb2 : -6000000000 ≤ s ∧ s ≤ 6000000000 := by omega
      obtain ⟨s0, s1⟩ := hsb2
      obtain ⟨bb, bo, rfl, -, -⟩ := RdR.elem liC_sz HR.out hG hp
      have HW := Lib.hid (liRow HR.out hG hp)
      have HK := Lib.hid hlt
      have hB5 : Bk (wr.alloc (.cells #[.int .i64 (kn : Int), .string kx, .int .i64 cc] 40)) wr.heap.size 40 #[.int .i64 (kn : Int), .string kx, .int .i64 cc] := Bk.new wr 40 _
      have hG5 := hG.alloc (.cells #[.int .i64 (kn : Int), .string kx, .int .i64 cc] 40)
      have hS5 := hS.alloc (.cells #[.int .i64 (kn : Int), .string kx, .int .i64 cc] 40)
      have hne : wr.heap.size ≠ gS := by have := hS.lt; omega
      clear hp hG hS hsb htl
      go_upto_region 5 with (refine wpList_load_at rfl 40 _ rfl ⟨bb, bo + k * 3, none⟩ rfl #[.int .i64 (kn : Int), .string kx, .int .i64 cc] _ HW.out Tryd.underlying40 rfl (li_info ((kn : Int), kx, cc)) ?_)
      clear HW
      generalize wr.alloc (.cells #[.int .i64 (kn : Int), .string kx, .int .i64 cc] 40) = w5 at hB5 hG5 hS5 ⊢
      generalize wr.heap.size = g at hB5 hne ⊢
      have c0 : w5.cell? ⟨g, 0, none⟩ = some (.int .i64 (kn : Int)) := hB5.cell 0
      have c2 : w5.cell? ⟨g, 2, none⟩ = some (.int .i64 cc) := hB5.cell 2
      have cS : w5.cell? ⟨gS, kn, none⟩ = some (.int .i64 s) := by rw [← hs]; exact sumC_cell hS5 kn hkn
      have fS : w5.frozen? ⟨gS, kn, none⟩ = false := hS5.free kn
      have hwr : IntKind.i64.wrap (s + cc) = s + cc := by rw [IntKind.wrap_i64]; omega
      have e0 : (w5.drew.setCell ⟨gS, kn, none⟩ (.int .i64 (s + cc))).cell? ⟨g, 0, none⟩ = some (.int .i64 (kn : Int)) := ((hB5.quiet ((G.refl w5 none).drew)).far (p := ⟨gS, kn, none⟩) hne _).cell 0
      have e2 : (w5.drew.setCell ⟨gS, kn, none⟩ (.int .i64 (s + cc))).cell? ⟨g, 2, none⟩ = some (.int .i64 cc) := ((hB5.quiet ((G.refl w5 none).drew)).far (p := ⟨gS, kn, none⟩) hne _).cell 2
      have hS6 : Bk (w5.drew.setCell ⟨gS, kn, none⟩ (.int .i64 (s + cc))) gS 77 (sumC (l.take (k + 1))) := by
        rw [HTK.out, ← hs]
        exact sumC_set (hS5.quiet ((G.refl w5 none).drew)) kn hkn kx cc
      have hG6 := hG5.drew.setCell (p := ⟨gS, kn, none⟩) (.inl hgl) (.int .i64 (s + cc))
      have hkni : (kn : Int) < 7 := by omega
      have HS6 := Lib.hid hS6
      have HG6 := Lib.hid hG6
      clear hS6 hG6 hS5 hG5 hB5 hs
      refine wp_region_held_drew (S := (fun w' : World => w'.cell? ⟨g, 0, none⟩ = some (.int .i64 (kn : Int)) ∧ w'.cell? ⟨g, 2, none⟩ = some (.int .i64 cc))) (by kernel_rfl) ?_ (fun hHeld => ?_)
      · exact ⟨c0, c2⟩
      refine wpAnyH_take (i := 0) (oi := { dst := some 20, op := Op.fieldAddr 40 (Operand.tmp 7) 0, type := 0, pos := _, after := #[], guard := none }) (v := ?_) rfl (by kernel_rfl) (by kernel_rfl) (by kernel_rfl) (fun _ _ _ h => h) (Or.inl ⟨by rfl, ?_⟩) (by assumption) ?_
      rotate_left
      · (intro w hSw; obtain ⟨s0, s1⟩ := hSw; (go_simp <;> with_reducible rfl))
      try simp only [Act.put, List.setIfInBounds_toArray, List.set_cons_zero, List.set_cons_succ]
      refine wpAnyH_take (i := 1) (oi := { dst := some 21, op := Op.load 3 (Operand.tmp 20), type := 3, pos := _, after := #[{ on := 0, ground := Ground.data }], guard := none }) (v := ?_) rfl (by kernel_rfl) (by kernel_rfl) (by kernel_rfl) (fun _ _ _ h => h) (Or.inl ⟨by rfl, ?_⟩) (by assumption) ?_
      rotate_left
      · (intro w hSw; obtain ⟨s0, s1⟩ := hSw; (go_simp <;> with_reducible rfl))
      try simp only [Act.put, List.setIfInBounds_toArray, List.set_cons_zero, List.set_cons_succ]
      refine wpAnyH_take (i := 2) (oi := { dst := some 22, op := Op.indexAddr 77 (Operand.tmp 5) (Operand.tmp 21), type := 0, pos := _, after := #[{ on := 1, ground := Ground.data }], guard := none }) (v := ?_) rfl (by kernel_rfl) (by kernel_rfl) (by kernel_rfl) (fun _ _ _ h => h) (Or.inl ⟨by rfl, ?_⟩) (by assumption) ?_
      rotate_left
      · (intro w hSw; obtain ⟨s0, s1⟩ := hSw; (go_simp <;> with_reducible rfl))
      try simp only [Act.put, List.setIfInBounds_toArray, List.set_cons_zero, List.set_cons_succ]
      refine wpAnyH_take (i := 4) (oi := { dst := some 24, op := Op.fieldAddr 40 (Operand.tmp 7) 2, type := 0, pos := _, after := #[], guard := none }) (v := ?_) rfl (by kernel_rfl) (by kernel_rfl) (by kernel_rfl) (fun _ _ _ h => h) (Or.inl ⟨by rfl, ?_⟩) (by assumption) ?_
      rotate_left
      · (intro w hSw; obtain ⟨s0, s1⟩ := hSw; (go_simp <;> with_reducible rfl))
      try simp only [Act.put, List.setIfInBounds_toArray, List.set_cons_zero, List.set_cons_succ]
      refine wpAnyH_take (i := 5) (oi := { dst := some 25, op := Op.load 3 (Operand.tmp 24), type := 3, pos := _, after := #[{ on := 4, ground := Ground.data }], guard := none }) (v := ?_) rfl (by kernel_rfl) (by kernel_rfl) (by kernel_rfl) (fun _ _ _ h => h) (Or.inl ⟨by rfl, ?_⟩) (by assumption) ?_
      rotate_left
      · (intro w hSw; obtain ⟨s0, s1⟩ := hSw; (go_simp <;> with_reducible rfl))
      try simp only [Act.put, List.setIfInBounds_toArray, List.set_cons_zero, List.set_cons_succ]
      refine wpAnyH_ready (rs := [3]) (by kernel_rfl) (by simp) ?_
      refine AllReadyH.cons (o := { dst := some 23, op := Op.load 3 (Operand.tmp 22), type := 3, pos := _, after := #[{ on := 2, ground := Ground.data }], guard := none }) rfl (fun K hK => ?_) AllReadyH.nil
      go_simp
      refine hK.out _ _ ?_ (fun hHeld => ?_)
      · exact ⟨c0, c2⟩
      clear hK K
      try simp only [Act.put, List.setIfInBounds_toArray, List.set_cons_zero, List.set_cons_succ]
      refine wpAnyH_take (i := 6) (oi := { dst := some 26, op := Op.binOp BinOp.add 3 (Operand.tmp 23) (Operand.tmp 25) 3, type := 3, pos := _, after := #[{ on := 3, ground := Ground.data }, { on := 5, ground := Ground.data }], guard := none }) (v := ?_) rfl (by kernel_rfl) (by kernel_rfl) (by kernel_rfl) (fun _ _ _ h => h) (Or.inl ⟨by rfl, ?_⟩) (by assumption) ?_
      rotate_left
      · (intro w hSw; obtain ⟨s0, s1⟩ := hSw; (go_simp <;> with_reducible rfl))
      try simp only [Act.put, List.setIfInBounds_toArray, List.set_cons_zero, List.set_cons_succ]
      refine wpAnyH_take (i := 7) (oi := { dst := some 27, op := Op.indexAddr 77 (Operand.tmp 5) (Operand.tmp 21), type := 0, pos := _, after := #[{ on := 1, ground := Ground.data }, { on := 0, ground := Ground.phase }, { on := 1, ground := Ground.phase }, { on := 2, ground := Ground.phase }, { on := 3, ground := Ground.phase }, { on := 4, ground := Ground.phase }, { on := 5, ground := Ground.phase }, { on := 6, ground := Ground.phase }], guard := none }) (v := ?_) rfl (by kernel_rfl) (by kernel_rfl) (by kernel_rfl) (fun _ _ _ h => h) (Or.inl ⟨by rfl, ?_⟩) (by assumption) ?_
      rotate_left
      · (intro w hSw; obtain ⟨s0, s1⟩ := hSw; (go_simp <;> with_reducible rfl))
      try simp only [Act.put, List.setIfInBounds_toArray, List.set_cons_zero, List.set_cons_succ]
      refine wpAnyH_ready (rs := [8]) (by kernel_rfl) (by simp) ?_
      refine AllReadyH.cons (o := { dst := none, op := Op.store 3 (Operand.tmp 27) (Operand.tmp 26), type := 0, pos := _, after := #[{ on := 7, ground := Ground.data }, { on := 6, ground := Ground.data }, { on := 0, ground := Ground.phase }, { on := 1, ground := Ground.phase }, { on := 2, ground := Ground.phase }, { on := 3, ground := Ground.phase }, { on := 4, ground := Ground.phase }, { on := 5, ground := Ground.phase }, { on := 6, ground := Ground.phase }], guard := none }) rfl (fun K hK => ?_) AllReadyH.nil
      go_simp
      refine hK.out _ _ ?_ (fun hHeld => ?_)
      · exact ⟨e0, e2⟩
      clear hK K
      try simp only [Act.put, List.setIfInBounds_toArray, List.set_cons_zero, List.set_cons_succ]
      refine wpAnyH_done (by kernel_rfl) ?_ _
      go_wp2_with fail
      go_roundw
      case rel => exact ⟨k + 1, (by have := HK.out; omega), by go_num, HS6.out, HG6.out⟩
      case measure => have := HK.out; simp [intOf]; omega
    · obtain rfl : k = l.length := by omega
      rw [List.take_length] at hS
      have HTN := Lib.hid (fun w' (q : G w w' none) => Rd.quiet HT.out q)
      have HXN := Lib.hid (fun w' (q : G w w' none) => TxL.quiet HX.out q)
      go_wp2_with fail
      go_loopw [8, 31] (TlnRel w gS T l) (fun _ i _ => T.length - (intOf i).toNat)
      case atStart => exact ⟨0, by omega, rfl, World.ownsRow_nil _ _ _ _, hS, hG⟩
      case round =>
        clear hS hG
        obtain ⟨k, hk, rfl, hown, hS, hG⟩ := hrel
        by_cases hlt : k < T.length
        · obtain ⟨⟨⟨kk, pm, ov⟩, ⟨ao, co⟩, ks⟩, hp⟩ : ∃ p, T[k]? = some p := ⟨_, List.getElem?_eq_getElem hlt⟩
          have hmem := List.mem_of_getElem? hp
          obtain ⟨hpb, hks, hkk⟩ := hg _ hmem
          dsimp only at hpb hks hkk
          obtain ⟨pm0, pm1⟩ := hpb
          have HTK : Hid (taxL l (T.take (k + 1)) = tzS l (taxL l (T.take k)) ((kk, pm, ov), (ao, co), ks)) := Lib.hid (by rw [List.take_add_one, hp, ← taxL_snoc]; rfl)
          have htb := taxL_bnd hb hn (T.take k) (by rw [List.length_take]; omega) (fun x hx => ⟨(hg x (List.mem_of_mem_take hx)).1, (hg x (List.mem_of_mem_take hx)).2.1⟩)
          have htt := tb_le (T.take k).length (by rw [List.length_take]; omega)
          have hol : (taxL l (T.take k)).length ≤ 3 := by rw [taxL_len, List.length_take]; omega
          obtain ⟨O, hO⟩ : ∃ O, taxL l (T.take k) = O := ⟨_, rfl⟩
          rw [hO] at HTK htb hol hown
          obtain ⟨hob, hoW⟩ := htb
          obtain ⟨S, hSS⟩ : ∃ S, liS O = S := ⟨_, rfl⟩
          have HSS := Lib.hid hSS
          rw [hSS] at hob
          have hsb : -280000000000 ≤ S ∧ S ≤ 280000000000 := by omega
          obtain ⟨S0, S1⟩ := hsb
          have HON : Hid (∀ w', G w w' none → RdT w' (.slice ao ks.length co) ks) := Lib.hid (fun w' q => HXN.out w' q _ hmem)
          obtain ⟨bb, bo, rfl, -, -⟩ := RdR.elem txC_sz (HTN.out _ (G.refl _ _)) hG hp
          have HW := Lib.hid (txRow (HTN.out _ (G.refl _ _)) hG hp)
          have HK := Lib.hid hlt
          have HOW := Lib.hid hoW
          have hB5 : Bk (wr.alloc (.cells #[.string kk, .int .i64 pm, .slice ao ks.length co, .bool ov] 52)) wr.heap.size 52 #[.string kk, .int .i64 pm, .slice ao ks.length co, .bool ov] := Bk.new wr 52 _
          have hG5 := hG.alloc (.cells #[.string kk, .int .i64 pm, .slice ao ks.length co, .bool ov] 52)
          have hS5 := hS.alloc (.cells #[.string kk, .int .i64 pm, .slice ao ks.length co, .bool ov] 52)
          have hown5 := OwnX.alloc hown (.cells #[.string kk, .int .i64 pm, .slice ao ks.length co, .bool ov] 52)
          have hgo : some wr.heap.size ≠ u8.ownBlock := OwnX.ne hown (.inr (Nat.le_refl _))
          clear hp hG hS hown hmem hO hSS hob htt hoW
          go_upto_region 11 with (refine wpList_load_at rfl 52 _ rfl ⟨bb, bo + k * 4, none⟩ rfl #[.string kk, .int .i64 pm, .slice ao ks.length co, .bool ov] _ HW.out Tryd.underlying52 rfl (tx_info ((kk, pm, ov), (ao, co), ks)) ?_)
          clear HW
          generalize wr.alloc (.cells #[.string kk, .int .i64 pm, .slice ao ks.length co, .bool ov] 52) = w5 at hB5 hG5 hS5 hown5 ⊢
          generalize wr.heap.size = g at hB5 hgo ⊢
          have c2 : w5.cell? ⟨g, 2, none⟩ = some (.slice ao ks.length co) := hB5.cell 2
          have HG5 := Lib.hid hG5
          have HB5 := Lib.hid hB5
          have HS5 := Lib.hid hS5
          have HO5 := Lib.hid hown5
          clear hG5 hB5 hS5 hown5
          go_wp2_with fail
          go_loopw [11, 38] (KsRel w5 l ks) (fun _ i _ => ks.length - (intOf i).toNat)
          case atStart => exact ⟨0, by omega, rfl, rfl, rfl⟩
          case round =>
            clear c2
            obtain ⟨j, hj, rfl, rfl, rfl⟩ := hrel
            by_cases hjl : j < ks.length
            · obtain ⟨kd, hn2⟩ : ∃ p, ks[j]? = some p := ⟨_, List.getElem?_eq_getElem hjl⟩
              obtain ⟨d0', d1'⟩ := hkk _ (List.mem_of_getElem? hn2)
              obtain ⟨kn, rfl⟩ := Int.eq_ofNat_of_zero_le (show (0 : Int) ≤ kd by omega)
              have HKS : Hid (onS l (ks.take (j + 1)) = onS l (ks.take j) + kS (kn : Int) l) := Lib.hid (by rw [List.take_add_one, hn2, ← onS_snoc]; rfl)
              obtain ⟨bo2, oo2, rfl, -, -⟩ := RdR.elem tnC_sz (HON.out _ HG5.out) (G.refl _ none) hn2
              have e0 := RdR.cell tnC_sz (HON.out _ HG5.out) (G.refl _ none) hn2 0 (.int .i64 (kn : Int)) rfl
              simp only [Nat.mul_one, Nat.add_zero] at e0
              have hsum := sumC_cell HS5.out kn (by omega)
              have hkb := kS_bnd hb kn
              have hob := onS_bnd hb hn (ks.take j)
              have htl : (ks.take j).length ≤ 6 := by rw [List.length_take]; omega
              obtain ⟨B, hB⟩ : ∃ B, onS l (ks.take j) = B := ⟨_, rfl⟩
              obtain ⟨Z, hZ⟩ : ∃ Z, kS (kn : Int) l = Z := ⟨_, rfl⟩
              rw [hB, hZ] at HKS
              rw [hB] at hob ⊢
              rw [hZ] at hsum hkb
              have hbb : -36000000000 ≤ B ∧ B ≤ 36000000000 := by omega
              have hzz : -6000000000 ≤ Z ∧ Z ≤ 6000000000 := by omega
              obtain ⟨B0, B1⟩ := hbb
              obtain ⟨Z0, Z1⟩ := hzz
              have HJ := Lib.hid hjl
              have hkni : (kn : Int) < 7 := by omega
              clear hn2 hkb hob htl hB hZ
              go_wp2_with fail
              go_roundw
              case rel => exact ⟨j + 1, (by have := HJ.out; omega), by go_num, by rw [HKS.out], rfl⟩
              case measure => have := HJ.out; simp [intOf]; omega
            · obtain rfl : j = ks.length := by omega
              rw [List.take_length]
              have hbo := onS_bnd hb hn ks
              obtain ⟨B, hB⟩ : ∃ B, onS l ks = B := ⟨_, rfl⟩
              have HB9 := Lib.hid hB
              rw [hB] at hbo ⊢
              have hbb : -36000000000 ≤ B ∧ B ≤ 36000000000 := by omega
              obtain ⟨B0, B1⟩ := hbb
              have hB5 := HB5.out
              have c3 : w5.cell? ⟨g, 3, none⟩ = some (.bool ov) := hB5.cell 3
              clear hbo hB hjl
              cases ov with
              | true =>
                go_wp2_with fail
                refine (sumOfW_c _ O _ (Rd.of_owns HO5.out) HOW.out (by omega)).mono ?_; rintro e w6 ⟨rfl, hh⟩
                rw [HSS.out]
                have hG6 := HG5.out.trans hh
                have hB6 := hB5.quiet hh
                have hS6 := HS5.out.quiet hh
                have hown6 := OwnX.quiet HO5.out hh
                clear hh hB5 c3
                have HTN2 : Hid (taxL l (T.take (k + 1)) = O ++ [(5, kk, prt (B + S) pm)]) := Lib.hid (by rw [HTK.out]; unfold tzS tlB; dsimp only; rw [HB9.out, HSS.out, if_pos rfl])
                have hmb := mul_bnd9 (n := B + S) (p := pm) (N := 320000000000) (by omega) (by omega) ⟨pm0, pm1⟩
                have CPO := Lib.hid (fun w' => partOf_c (B + S) pm w' (by omega))
                obtain ⟨P, hP⟩ : ∃ P, prt (B + S) pm = P := ⟨_, rfl⟩
                rw [hP] at HTN2 CPO
                have hgsO : some gS ≠ u8.ownBlock := OwnX.apz hown6 hS6 (by decide)
                clear hmb hP
                go_upto_region 19 with fail

                have c0 : w6.cell? ⟨g, 0, none⟩ = some (.string kk) := hB6.cell 0
                have c1 : w6.cell? ⟨g, 1, none⟩ = some (.int .i64 pm) := hB6.cell 1
                go_region_held3 (fun w' => w'.cell? ⟨g, 0, none⟩ = some (.string kk) ∧ w'.cell? ⟨g, 1, none⟩ = some (.int .i64 pm)) (first | exact ⟨c0, c1⟩ | exact hS7 | go_keep) (first | (go_at_call 44; refine (CPO.out _).mono ?_; rintro e w' ⟨rfl, rfl⟩) | (have hNN := Bk.new w6.drew 40 #[.int .i64 5, .string kk, .int .i64 P]; have hOO := OwnX.alloc (OwnX.drew hown6) (.cells #[.int .i64 5, .string kk, .int .i64 P] 40); have hLL : O.length ≤ 1000 := (by omega); have hZZ : w.heap.size ≤ (w6.drew.alloc (.cells #[.int .i64 5, .string kk, .int .i64 P] 40)).heap.size := (((hG6.drew).alloc (.cells #[.int .i64 5, .string kk, .int .i64 P] 40)).size); refine st_wp rfl (wp_append_x li_rowOk _ _ rfl w.heap.size u8 O rfl hOO w6.drew.heap.size (5, kk, P) rfl hNN hLL hZZ ?_); clear hNN hOO hLL hZZ; intro v' w7 hown7 hgrow; have hB7 := ((hB6.quiet ((G.refl w6 none).drew)).alloc (.cells #[.int .i64 5, .string kk, .int .i64 P] 40)).grown hgrow hgo; have hS7 : w7.cell? ⟨g, 0, none⟩ = some (.string kk) ∧ w7.cell? ⟨g, 1, none⟩ = some (.int .i64 pm) := ⟨hB7.cell 0, hB7.cell 1⟩))
                have hob := OwnX.low hown6
                go_wp2_with fail
                go_roundw
                case rel => exact ⟨k + 1, (by have := HK.out; omega), by go_num, (by rw [HTN2.out]; exact hown7), ((hS6.quiet ((G.refl w6 none).drew)).alloc _).grown hgrow hgsO, (hG6.drew.alloc _).other hgrow (fun r e => .inl (hob r e))⟩
                case measure => have := HK.out; simp [intOf]; omega
              | false =>
                have hG6 := HG5.out
                have hB6 := hB5
                have hS6 := HS5.out
                have hown6 := HO5.out
                clear hB5
                have HTN2 : Hid (taxL l (T.take (k + 1)) = O ++ [(5, kk, prt (B) pm)]) := Lib.hid (by rw [HTK.out]; unfold tzS tlB; dsimp only; rw [HB9.out]; simp)
                have hmb := mul_bnd9 (n := B) (p := pm) (N := 320000000000) (by omega) (by omega) ⟨pm0, pm1⟩
                have CPO := Lib.hid (fun w' => partOf_c (B) pm w' (by omega))
                obtain ⟨P, hP⟩ : ∃ P, prt (B) pm = P := ⟨_, rfl⟩
                rw [hP] at HTN2 CPO
                have hgsO : some gS ≠ u8.ownBlock := OwnX.apz hown6 hS6 (by decide)
                clear hmb hP
                go_upto_region 19 with fail
                try clear c3
                have c0 : w5.cell? ⟨g, 0, none⟩ = some (.string kk) := hB6.cell 0
                have c1 : w5.cell? ⟨g, 1, none⟩ = some (.int .i64 pm) := hB6.cell 1
                go_region_held3 (fun w' => w'.cell? ⟨g, 0, none⟩ = some (.string kk) ∧ w'.cell? ⟨g, 1, none⟩ = some (.int .i64 pm)) (first | exact ⟨c0, c1⟩ | exact hS7 | go_keep) (first | (go_at_call 44; refine (CPO.out _).mono ?_; rintro e w' ⟨rfl, rfl⟩) | (have hNN := Bk.new w5.drew 40 #[.int .i64 5, .string kk, .int .i64 P]; have hOO := OwnX.alloc (OwnX.drew hown6) (.cells #[.int .i64 5, .string kk, .int .i64 P] 40); have hLL : O.length ≤ 1000 := (by omega); have hZZ : w.heap.size ≤ (w5.drew.alloc (.cells #[.int .i64 5, .string kk, .int .i64 P] 40)).heap.size := (((hG6.drew).alloc (.cells #[.int .i64 5, .string kk, .int .i64 P] 40)).size); refine st_wp rfl (wp_append_x li_rowOk _ _ rfl w.heap.size u8 O rfl hOO w5.drew.heap.size (5, kk, P) rfl hNN hLL hZZ ?_); clear hNN hOO hLL hZZ; intro v' w7 hown7 hgrow; have hB7 := ((hB6.quiet ((G.refl w5 none).drew)).alloc (.cells #[.int .i64 5, .string kk, .int .i64 P] 40)).grown hgrow hgo; have hS7 : w7.cell? ⟨g, 0, none⟩ = some (.string kk) ∧ w7.cell? ⟨g, 1, none⟩ = some (.int .i64 pm) := ⟨hB7.cell 0, hB7.cell 1⟩))
                have hob := OwnX.low hown6
                go_wp2_with fail
                go_roundw
                case rel => exact ⟨k + 1, (by have := HK.out; omega), by go_num, (by rw [HTN2.out]; exact hown7), ((hS6.quiet ((G.refl w5 none).drew)).alloc _).grown hgrow hgsO, (hG6.drew.alloc _).other hgrow (fun r e => .inl (hob r e))⟩
                case measure => have := HK.out; simp [intOf]; omega
        · obtain rfl : k = T.length := by omega
          rw [List.take_length] at hown
          go_wp2_with fail
          go_ret
          exact ⟨_, rfl, hown, hG⟩
end Go.Proofs.YtkgkbjijiapcpaaDoor

/- The reference's TaxesOf; tariff.TaxLines. Written by gentxn.py. -/
namespace Go.Proofs.YtkgkbjijiapcpaaDoor
open Go.RowKit

def ToRel (w : World) (T : List Tx) (l : List Li) (s5 i : Value) (wr : World) : Prop :=
  ∃ k : Nat, k ≤ T.length ∧ i = .int .i64 k ∧ OwnX 40 3 liC wr w.heap.size s5 (taxL l (T.take k)) ∧ G w wr none
def RfRel (w : World) (l : List Li) (ks : List Int) (s8 i : Value) (wr : World) : Prop :=
  ∃ k : Nat, k ≤ l.length ∧ i = .int .i64 k ∧ s8 = .int .i64 (rfS ks (l.take k)) ∧ G w wr none
set_option maxRecDepth 100000 in
set_option maxHeartbeats 8000000 in
theorem taxesOf_c (v u : Value) (T : List Tx) (l : List Li) (w : World) (hT : TxR w v T) (hr : RdR w 3 liC u l) (hb : LiB l) (hn : l.length ≤ 6) (hT3 : T.length ≤ 3) (hg : TxGood T) (hnd : ∀ x ∈ T, x.2.2.Nodup) :
    Calls Tryd.prog 19 #[v, u] w fun e w' => ∃ v', e = .returned v' ∧ OwnX 40 3 liC w' w.heap.size v' (taxL l T) ∧ G w w' none := by
  obtain ⟨hT, hx⟩ := hT
  obtain ⟨a1, cap1, rfl, hcap1, hm1⟩ := RdR.form hT
  obtain ⟨a2, cap2, rfl, hcap2, hm2⟩ := RdR.form hr
  have HTN := Lib.hid (fun w' (q : G w w' none) => Rd.quiet hT q)
  have HXN := Lib.hid (fun w' (q : G w w' none) => TxL.quiet hx q)
  have HRN := Lib.hid (fun w' (q : G w w' none) => Rd.quiet hr q)
  clear hT hx hr
  go_enter Tryd.func19, Tryd.ntmps19
  go_wp2_with fail
  go_loopw [5, 13] (ToRel w T l) (fun _ i _ => T.length - (intOf i).toNat)
  case atStart => exact ⟨0, by omega, rfl, World.ownsRow_nil _ _ _ _, G.refl _ _⟩
  case round =>
    obtain ⟨k, hk, rfl, hown, hG⟩ := hrel
    by_cases hlt : k < T.length
    · obtain ⟨⟨⟨kk, pm, ov⟩, ⟨ao, co⟩, ks⟩, hp⟩ : ∃ p, T[k]? = some p := ⟨_, List.getElem?_eq_getElem hlt⟩
      have hmem := List.mem_of_getElem? hp
      obtain ⟨hpb, hks, hkk⟩ := hg _ hmem
      have hnod := hnd _ hmem
      dsimp only at hpb hks hkk hnod
      obtain ⟨pm0, pm1⟩ := hpb
      have HTK : Hid (taxL l (T.take (k + 1)) = tzS l (taxL l (T.take k)) ((kk, pm, ov), (ao, co), ks)) := Lib.hid (by rw [List.take_add_one, hp, ← taxL_snoc]; rfl)
      have htb := taxL_bnd hb hn (T.take k) (by rw [List.length_take]; omega) (fun x hx => ⟨(hg x (List.mem_of_mem_take hx)).1, (hg x (List.mem_of_mem_take hx)).2.1⟩)
      have htt := tb_le (T.take k).length (by rw [List.length_take]; omega)
      have hol : (taxL l (T.take k)).length ≤ 3 := by rw [taxL_len, List.length_take]; omega
      obtain ⟨O, hO⟩ : ∃ O, taxL l (T.take k) = O := ⟨_, rfl⟩
      rw [hO] at HTK htb hol hown
      obtain ⟨hob, hoW⟩ := htb
      obtain ⟨S, hSS⟩ : ∃ S, liS O = S := ⟨_, rfl⟩
      have HSS := Lib.hid hSS
      rw [hSS] at hob
      have hsb : -280000000000 ≤ S ∧ S ≤ 280000000000 := by omega
      obtain ⟨S0, S1⟩ := hsb
      have HON : Hid (∀ w', G w w' none → RdT w' (.slice ao ks.length co) ks) := Lib.hid (fun w' q => HXN.out w' q _ hmem)
      have HRF : Hid (rfS ks l = onS l ks) := Lib.hid (on_rf hnod l).symm
      obtain ⟨bb, bo, rfl, -, -⟩ := RdR.elem txC_sz (HTN.out _ (G.refl _ _)) hG hp
      have HW := Lib.hid (txRow (HTN.out _ (G.refl _ _)) hG hp)
      have HK := Lib.hid hlt
      have HOW := Lib.hid hoW
      have hB5 : Bk (wr.alloc (.cells #[.string kk, .int .i64 pm, .slice ao ks.length co, .bool ov] 52)) wr.heap.size 52 #[.string kk, .int .i64 pm, .slice ao ks.length co, .bool ov] := Bk.new wr 52 _
      have hG5 := hG.alloc (.cells #[.string kk, .int .i64 pm, .slice ao ks.length co, .bool ov] 52)
      have hown5 := OwnX.alloc hown (.cells #[.string kk, .int .i64 pm, .slice ao ks.length co, .bool ov] 52)
      have hgo : some wr.heap.size ≠ u5.ownBlock := OwnX.ne hown (.inr (Nat.le_refl _))
      clear hp hG hown hmem hO hSS hob htt hoW hnod
      go_upto_region 5 with (refine wpList_load_at rfl 52 _ rfl ⟨bb, bo + k * 4, none⟩ rfl #[.string kk, .int .i64 pm, .slice ao ks.length co, .bool ov] _ HW.out Tryd.underlying52 rfl (tx_info ((kk, pm, ov), (ao, co), ks)) ?_)
      clear HW
      generalize wr.alloc (.cells #[.string kk, .int .i64 pm, .slice ao ks.length co, .bool ov] 52) = w5 at hB5 hG5 hown5 ⊢
      generalize wr.heap.size = g at hB5 hgo ⊢
      have HG5 := Lib.hid hG5
      have HB5 := Lib.hid hB5
      have HO5 := Lib.hid hown5
      clear hG5 hB5 hown5
      go_wp2_with fail
      go_loopw [8, 19] (RfRel w5 l ks) (fun _ i _ => l.length - (intOf i).toNat)
      case atStart => exact ⟨0, by omega, rfl, rfl, G.refl _ _⟩
      case round =>
        obtain ⟨j, hj, rfl, rfl, hGq⟩ := hrel
        by_cases hjl : j < l.length
        · obtain ⟨⟨ky, kx, cc⟩, hy⟩ : ∃ p, l[j]? = some p := ⟨_, List.getElem?_eq_getElem hjl⟩
          have HRS : Hid (rfS ks (l.take (j + 1)) = rfS ks (l.take j) + if ky ∈ ks then cc else 0) := Lib.hid (by rw [List.take_add_one, hy]; exact rfS_snoc ks (l.take j) (ky, kx, cc))
          have hcb := hb _ (List.mem_of_getElem? hy)
          dsimp only at hcb
          obtain ⟨c0', c1'⟩ := hcb
          have hrb := rfS_bnd (l := l.take j) (fun x hx => hb x (List.mem_of_mem_take hx)) ks
          have htl : (l.take j).length ≤ 6 := by rw [List.length_take]; omega
          obtain ⟨B, hB⟩ : ∃ B, rfS ks (l.take j) = B := ⟨_, rfl⟩
          rw [hB] at HRS hrb ⊢
          have hbb : -6000000000 ≤ B ∧ B ≤ 6000000000 := by omega
          obtain ⟨B0, B1⟩ := hbb
          obtain ⟨b2, o2, rfl, -, -⟩ := RdR.elem liC_sz (HRN.out _ HG5.out) hGq hy
          have HW := Lib.hid (liRow (HRN.out _ HG5.out) hGq hy)
          have HJ := Lib.hid hjl
          have hB7 : Bk (wr.alloc (.cells #[.int .i64 ky, .string kx, .int .i64 cc] 40)) wr.heap.size 40 #[.int .i64 ky, .string kx, .int .i64 cc] := Bk.new wr 40 _
          have hG7 := hGq.alloc (.cells #[.int .i64 ky, .string kx, .int .i64 cc] 40)
          have hT7 := HB5.out.quiet hG7
          clear hy hGq hB hrb htl
          go_upto_region 9 with (refine wpList_load_at rfl 40 _ rfl ⟨b2, o2 + j * 3, none⟩ rfl #[.int .i64 ky, .string kx, .int .i64 cc] _ HW.out Tryd.underlying40 rfl (li_info (ky, kx, cc)) ?_)
          clear HW
          generalize wr.alloc (.cells #[.int .i64 ky, .string kx, .int .i64 cc] 40) = w7 at hB7 hG7 hT7 ⊢
          generalize wr.heap.size = gl at hB7 ⊢
          have c2 : w7.cell? ⟨g, 2, none⟩ = some (.slice ao ks.length co) := hT7.cell 2
          have l0 : w7.cell? ⟨gl, 0, none⟩ = some (.int .i64 ky) := hB7.cell 0
          have l2 : w7.cell? ⟨gl, 2, none⟩ = some (.int .i64 cc) := hB7.cell 2
          have CH := Lib.hid (inHas_c _ ks ky _ (HON.out _ (HG5.out.trans hG7)) (by omega))
          clear hT7 hB7
          go_wp2_with fail
          refine CH.out.mono ?_; rintro e w8 ⟨rfl, rfl⟩
          by_cases hm : ky ∈ ks
          · have HF : Hid (rfS ks (l.take (j + 1)) = B + cc) := Lib.hid (by rw [HRS.out, if_pos hm])
            rw [decide_eq_true hm]
            clear hm CH
            go_wp2_with fail
            go_roundw
            case rel => exact ⟨j + 1, (by have := HJ.out; omega), by go_num, by rw [HF.out], hG7⟩
            case measure => have := HJ.out; simp [intOf]; omega
          · have HF : Hid (rfS ks (l.take (j + 1)) = B) := Lib.hid (by rw [HRS.out, if_neg hm, Int.add_zero])
            rw [decide_eq_false hm]
            clear hm CH
            go_wp2_with fail
            go_roundw
            case rel => exact ⟨j + 1, (by have := HJ.out; omega), by go_num, by rw [HF.out], hG7⟩
            case measure => have := HJ.out; simp [intOf]; omega
        · obtain rfl : j = l.length := by omega
          rw [List.take_length, HRF.out]
          have hbo := onS_bnd hb hn ks
          obtain ⟨B, hB⟩ : ∃ B, onS l ks = B := ⟨_, rfl⟩
          have HB9 := Lib.hid hB
          rw [hB] at hbo ⊢
          have hbb : -36000000000 ≤ B ∧ B ≤ 36000000000 := by omega
          obtain ⟨B0, B1⟩ := hbb
          have hG5 := HG5.out.trans hGq
          have hB5 := HB5.out.quiet hGq
          have hO5 := OwnX.quiet HO5.out hGq
          have c3 : wr.cell? ⟨g, 3, none⟩ = some (.bool ov) := hB5.cell 3
          clear hbo hB hjl hGq
          cases ov with
          | true =>
            go_wp2_with fail
            refine (sumOfRW_c _ O _ (Rd.of_owns hO5) HOW.out (by omega)).mono ?_; rintro e w6 ⟨rfl, hh⟩
            rw [HSS.out]
            have hG6 := hG5.trans hh
            have hB6 := hB5.quiet hh
            have hown6 := OwnX.quiet hO5 hh
            clear hh hB5 c3 hG5 hO5
            have HTN2 : Hid (taxL l (T.take (k + 1)) = O ++ [(5, kk, prt (B + S) pm)]) := Lib.hid (by rw [HTK.out]; unfold tzS tlB; dsimp only; rw [HB9.out, HSS.out, if_pos rfl])
            have hmb := mul_bnd9 (n := B + S) (p := pm) (N := 320000000000) (by omega) (by omega) ⟨pm0, pm1⟩
            have h2m : 2 * (B + S) * pm = 2 * ((B + S) * pm) := Int.mul_assoc ..
            have CPO := Lib.hid (fun w' => floorT_c (2 * (B + S) * pm + 1000) w' (by omega))
            rw [prt_ref] at CPO
            obtain ⟨P, hP⟩ : ∃ P, prt (B + S) pm = P := ⟨_, rfl⟩
            obtain ⟨M, hM⟩ : ∃ M, 2 * (B + S) * pm = M := ⟨_, rfl⟩
            rw [hM] at CPO h2m
            have hMb : -640000000000000 ≤ M ∧ M ≤ 640000000000000 := by omega
            obtain ⟨M0, M1⟩ := hMb
            have hw1 : IntKind.i64.wrap (2 * (B + S)) = 2 * (B + S) := by rw [IntKind.wrap_i64]; omega
            have hw2 : IntKind.i64.wrap (2 * (B + S) * pm) = M := by rw [hM, IntKind.wrap_i64]; omega
            have hw3 : IntKind.i64.wrap (M + 1000) = M + 1000 := by rw [IntKind.wrap_i64]; omega
            rw [hP] at HTN2 CPO
            clear hmb hP h2m hM
            go_upto_region 14 with fail

            have c0 : w6.cell? ⟨g, 0, none⟩ = some (.string kk) := hB6.cell 0
            have c1 : w6.cell? ⟨g, 1, none⟩ = some (.int .i64 pm) := hB6.cell 1
            go_region_held3 (fun w' => w'.cell? ⟨g, 0, none⟩ = some (.string kk) ∧ w'.cell? ⟨g, 1, none⟩ = some (.int .i64 pm)) (first | exact ⟨c0, c1⟩ | exact hS7 | go_keep) (first | (go_at_call 42; refine (CPO.out _).mono ?_; rintro e w' ⟨rfl, rfl⟩) | (have hNN := Bk.new w6.drew 40 #[.int .i64 5, .string kk, .int .i64 P]; have hOO := OwnX.alloc (OwnX.drew hown6) (.cells #[.int .i64 5, .string kk, .int .i64 P] 40); have hLL : O.length ≤ 1000 := (by omega); have hZZ : w.heap.size ≤ (w6.drew.alloc (.cells #[.int .i64 5, .string kk, .int .i64 P] 40)).heap.size := (((hG6.drew).alloc (.cells #[.int .i64 5, .string kk, .int .i64 P] 40)).size); refine st_wp rfl (wp_append_x li_rowOk _ _ rfl w.heap.size u5 O rfl hOO w6.drew.heap.size (5, kk, P) rfl hNN hLL hZZ ?_); clear hNN hOO hLL hZZ; intro v' w7 hown7 hgrow; have hB7 := ((hB6.quiet ((G.refl w6 none).drew)).alloc (.cells #[.int .i64 5, .string kk, .int .i64 P] 40)).grown hgrow hgo; have hS7 : w7.cell? ⟨g, 0, none⟩ = some (.string kk) ∧ w7.cell? ⟨g, 1, none⟩ = some (.int .i64 pm) := ⟨hB7.cell 0, hB7.cell 1⟩))
            have hob := OwnX.low hown6
            go_wp2_with fail
            go_roundw
            case rel => exact ⟨k + 1, (by have := HK.out; omega), by go_num, (by rw [HTN2.out]; exact hown7), (hG6.drew.alloc _).other hgrow (fun r e => .inl (hob r e))⟩
            case measure => have := HK.out; simp [intOf]; omega
          | false =>
            have hG6 := hG5
            have hB6 := hB5
            have hown6 := hO5
            clear hB5 hG5 hO5
            have HTN2 : Hid (taxL l (T.take (k + 1)) = O ++ [(5, kk, prt (B) pm)]) := Lib.hid (by rw [HTK.out]; unfold tzS tlB; dsimp only; rw [HB9.out]; simp)
            have hmb := mul_bnd9 (n := B) (p := pm) (N := 320000000000) (by omega) (by omega) ⟨pm0, pm1⟩
            have h2m : 2 * (B) * pm = 2 * ((B) * pm) := Int.mul_assoc ..
            have CPO := Lib.hid (fun w' => floorT_c (2 * (B) * pm + 1000) w' (by omega))
            rw [prt_ref] at CPO
            obtain ⟨P, hP⟩ : ∃ P, prt (B) pm = P := ⟨_, rfl⟩
            obtain ⟨M, hM⟩ : ∃ M, 2 * (B) * pm = M := ⟨_, rfl⟩
            rw [hM] at CPO h2m
            have hMb : -640000000000000 ≤ M ∧ M ≤ 640000000000000 := by omega
            obtain ⟨M0, M1⟩ := hMb
            have hw1 : IntKind.i64.wrap (2 * (B)) = 2 * (B) := by rw [IntKind.wrap_i64]; omega
            have hw2 : IntKind.i64.wrap (2 * (B) * pm) = M := by rw [hM, IntKind.wrap_i64]; omega
            have hw3 : IntKind.i64.wrap (M + 1000) = M + 1000 := by rw [IntKind.wrap_i64]; omega
            rw [hP] at HTN2 CPO
            clear hmb hP h2m hM
            go_upto_region 14 with fail
            try clear c3
            have c0 : wr.cell? ⟨g, 0, none⟩ = some (.string kk) := hB6.cell 0
            have c1 : wr.cell? ⟨g, 1, none⟩ = some (.int .i64 pm) := hB6.cell 1
            go_region_held3 (fun w' => w'.cell? ⟨g, 0, none⟩ = some (.string kk) ∧ w'.cell? ⟨g, 1, none⟩ = some (.int .i64 pm)) (first | exact ⟨c0, c1⟩ | exact hS7 | go_keep) (first | (go_at_call 42; refine (CPO.out _).mono ?_; rintro e w' ⟨rfl, rfl⟩) | (have hNN := Bk.new wr.drew 40 #[.int .i64 5, .string kk, .int .i64 P]; have hOO := OwnX.alloc (OwnX.drew hown6) (.cells #[.int .i64 5, .string kk, .int .i64 P] 40); have hLL : O.length ≤ 1000 := (by omega); have hZZ : w.heap.size ≤ (wr.drew.alloc (.cells #[.int .i64 5, .string kk, .int .i64 P] 40)).heap.size := (((hG6.drew).alloc (.cells #[.int .i64 5, .string kk, .int .i64 P] 40)).size); refine st_wp rfl (wp_append_x li_rowOk _ _ rfl w.heap.size u5 O rfl hOO wr.drew.heap.size (5, kk, P) rfl hNN hLL hZZ ?_); clear hNN hOO hLL hZZ; intro v' w7 hown7 hgrow; have hB7 := ((hB6.quiet ((G.refl wr none).drew)).alloc (.cells #[.int .i64 5, .string kk, .int .i64 P] 40)).grown hgrow hgo; have hS7 : w7.cell? ⟨g, 0, none⟩ = some (.string kk) ∧ w7.cell? ⟨g, 1, none⟩ = some (.int .i64 pm) := ⟨hB7.cell 0, hB7.cell 1⟩))
            have hob := OwnX.low hown6
            go_wp2_with fail
            go_roundw
            case rel => exact ⟨k + 1, (by have := HK.out; omega), by go_num, (by rw [HTN2.out]; exact hown7), (hG6.drew.alloc _).other hgrow (fun r e => .inl (hob r e))⟩
            case measure => have := HK.out; simp [intOf]; omega
    · obtain rfl : k = T.length := by omega
      rw [List.take_length] at hown
      go_wp2_with fail
      go_ret
      exact ⟨_, rfl, hown, hG⟩
def tlsE (T : List Tx) (l : List Li) : Int := if txE T = 0 then (if liE l = 0 then (if l.any isTx = true then 4 else 0) else liE l) else txE T
set_option maxRecDepth 100000 in
set_option maxHeartbeats 8000000 in
theorem taxLinesP_c (v u : Value) (T : List Tx) (l : List Li) (w : World) (hT : TxR w v T) (hr : RdR w 3 liC u l) (ho : TxOk T) (hl : LiOk l) (hn : l.length ≤ 6) (hT3 : T.length ≤ 3) :
    Calls Tryd.prog 6 #[v, u] w fun e w' => ∃ v', e = .returned (.tuple #[v', .int .i64 (tlsE T l)]) ∧ RdR w' 3 liC v' (if tlsE T l = 0 then taxL l T else []) ∧ G w w' none := by
  obtain ⟨a1, cap1, rfl, hcap1, hm1⟩ := RdR.form hT.1
  obtain ⟨a2, cap2, rfl, hcap2, hm2⟩ := RdR.form hr
  obtain ⟨E, hE⟩ : ∃ E, tlsE T l = E := ⟨_, rfl⟩
  have HE : Hid (E = if txE T = 0 then (if liE l = 0 then (if l.any isTx = true then 4 else 0) else liE l) else txE T) := Lib.hid (by rw [← hE]; rfl)
  obtain ⟨X, hX⟩ : ∃ X, (if tlsE T l = 0 then taxL l T else []) = X := ⟨_, rfl⟩
  have HX : Hid (X = if E = 0 then taxL l T else []) := Lib.hid (by rw [← hX, hE])
  rw [hX, hE]
  clear hE hX
  go_enter Tryd.func6, Tryd.ntmps6
  go_wp2_with fail
  refine (checkTaxes_c _ T _ hT ho (by omega)).mono ?_; rintro e w1 ⟨rfl, hG⟩
  replace hT := hT.quiet hG
  replace hr := hr.quiet hG
  by_cases e1 : txE T = 0
  rotate_left
  · obtain rfl : E = txE T := by rw [HE.out, if_neg e1]
    obtain rfl : X = [] := by rw [HX.out, if_neg e1]
    have hb : (txE T != 0) = true := bne_iff_ne.2 e1
    clear HE HX e1
    go_wp2_with fail
    go_ret2
    exact ⟨_, rfl, RdR.nil _ _ _, hG⟩
  have HE1 : Hid (E = if liE l = 0 then (if l.any isTx = true then 4 else 0) else liE l) := Lib.hid (by rw [HE.out, if_pos e1])
  have HTG := Lib.hid (TxGood.of e1 ho)
  rw [e1]
  clear e1 HE
  go_wp2_with fail
  refine (checkLines_c _ l _ hr hl (by omega)).mono ?_; rintro e w2 ⟨rfl, hh⟩
  replace hT := hT.quiet hh
  replace hr := hr.quiet hh
  replace hG := hG.trans hh
  clear hh
  by_cases e1 : liE l = 0
  rotate_left
  · obtain rfl : E = liE l := by rw [HE1.out, if_neg e1]
    obtain rfl : X = [] := by rw [HX.out, if_neg e1]
    have hb : (liE l != 0) = true := bne_iff_ne.2 e1
    clear HE1 HX e1
    go_wp2_with fail
    go_ret2
    exact ⟨_, rfl, RdR.nil _ _ _, hG⟩
  have HE2 : Hid (E = if l.any isTx = true then 4 else 0) := Lib.hid (by rw [HE1.out, if_pos e1])
  have HLB := Lib.hid (liE_ok e1).1
  have HLK := Lib.hid (liE_k e1)
  rw [e1]
  clear e1 HE1
  go_wp2_with fail
  refine (ltHas_c 26 (fun _ _ => rfl) _ l _ (fun x w' _ => isTax_c x w') hr (by omega)).mono ?_; rintro e w3 ⟨rfl, hh⟩
  replace hT := hT.quiet hh
  replace hr := hr.quiet hh
  replace hG := hG.trans hh
  clear hh
  cases e1 : l.any isTx with
  | true =>
    obtain rfl : E = 4 := by rw [HE2.out, if_pos e1]
    obtain rfl : X = [] := by rw [HX.out, if_neg (by decide)]
    clear HE2 HX e1
    go_wp2_with fail
    go_ret2
    exact ⟨_, rfl, RdR.nil _ _ _, hG⟩
  | false =>
    obtain rfl : E = 0 := by rw [HE2.out, if_neg (by simp [e1])]
    obtain rfl : X = taxL l T := by rw [HX.out, if_pos rfl]
    clear HE2 HX e1
    go_wp2_with fail
    refine (taxLines_c _ _ T l _ hT hr HLB.out HLK.out hn hT3 HTG.out).mono ?_; rintro e w4 ⟨v', rfl, hown, hh⟩
    replace hG := hG.trans hh
    go_wp2_with fail
    go_ret2
    exact ⟨_, rfl, Rd.of_owns hown, hG⟩
end Go.Proofs.YtkgkbjijiapcpaaDoor

/- basic.IsTime, basic.IsMoment. -/
namespace Go.Proofs.YtkgkbjijiapcpaaDoor
open Go.RowKit

theorem wi_info (a b : Int) : (Tryd.prog.info? 72).map (·.size) = some #[Value.int .i64 a, .int .i64 b].size := (by kernel_rfl : (Tryd.prog.info? 72).map (·.size) = some 2)
theorem wi_one (a b : Int) : #[Value.int .i64 a, .int .i64 b].all (·.oneCell') = true := by simp [Value.oneCell']
def timB (a z : Int) : Bool := decide (0 ≤ a) && (decide (a < z) && decide (z < 5761440))
theorem timB_iff (a z : Int) : timB a z = true ↔ 0 ≤ a ∧ a < z ∧ z < 5761440 := by unfold timB; simp
theorem timB_yes {a z : Int} (h : 0 ≤ a ∧ a < z ∧ z < 5761440) : timB a z = true := (timB_iff a z).2 h
theorem timB_no {a z : Int} (h : ¬ (0 ≤ a ∧ a < z ∧ z < 5761440)) : timB a z = false := by
  cases hb : timB a z with
  | false => rfl
  | true => exact absurd ((timB_iff a z).1 hb) h
set_option maxRecDepth 100000 in
set_option maxHeartbeats 1000000 in
theorem isTime_c (a z : Int) (w : World) : Calls Tryd.prog 83 #[.agg #[.int .i64 a, .int .i64 z]] w fun e w' => e = .returned (.bool (timB a z)) ∧ G w w' none := by
  have hG : G w (w.alloc (.cells #[.int .i64 a, .int .i64 z] 72)) none := (G.refl w none).alloc _
  rcases (show a < 0 ∨ (0 ≤ a ∧ z ≤ a) ∨ (0 ≤ a ∧ a < z ∧ 5761440 ≤ z) ∨ (0 ≤ a ∧ a < z ∧ z < 5761440) by omega) with h1 | ⟨h1, h2⟩ | ⟨h1, h2, h3⟩ | ⟨h1, h2, h3⟩
  · have HF : Hid (timB a z = false) := Lib.hid (timB_no (by omega))
    go_enter Tryd.func83, Tryd.ntmps83
    go_wp2_with fail
    go_ret
    exact ⟨ret_bool HF.out.symm, hG⟩
  · have HF : Hid (timB a z = false) := Lib.hid (timB_no (by omega))
    go_enter Tryd.func83, Tryd.ntmps83
    go_wp2_with fail
    go_ret
    exact ⟨ret_bool HF.out.symm, hG⟩
  · have HF : Hid (timB a z = false) := Lib.hid (timB_no (by omega))
    have h4 : ¬ z < 5761440 := by omega
    go_enter Tryd.func83, Tryd.ntmps83
    go_wp2_with fail
    go_ret
    exact ⟨ret_bool (by rw [HF.out] <;> exact decide_eq_false h4), hG⟩
  · have HF : Hid (timB a z = true) := Lib.hid (timB_yes ⟨h1, h2, h3⟩)
    go_enter Tryd.func83, Tryd.ntmps83
    go_wp2_with fail
    go_ret
    exact ⟨ret_bool (by rw [HF.out] <;> exact decide_eq_true h3), hG⟩
end Go.Proofs.YtkgkbjijiapcpaaDoor

/- Bookings: checkForm; the reference's BookingForm. -/
namespace Go.Proofs.YtkgkbjijiapcpaaDoor
open Go.RowKit

/-- A booking: key, class, from, to, made, percent. -/
abbrev Bo := ByteArray × ByteArray × Int × Int × Int × Int
def boC (x : Bo) : Array Value := #[.string x.1, .string x.2.1, .int .i64 x.2.2.1, .int .i64 x.2.2.2.1, .int .i64 x.2.2.2.2.1, .int .i64 x.2.2.2.2.2]
theorem boC_sz (x : Bo) : (boC x).size = 6 := rfl
def boB (x : Bo) : Prop := Small x.1 ∧ Small x.2.1 ∧ bnd x.2.2.1 ∧ bnd x.2.2.2.1 ∧ bnd x.2.2.2.2.1 ∧ bnd x.2.2.2.2.2
def BoOk (l : List Bo) : Prop := ∀ x ∈ l, boB x
def boT (a z m p : Int) : Bool := timB a z && (inB m 0 a && inB p 0 100)
def boErr (b : ByteArray) : List Bo → Int
  | [] => 0
  | x :: r => if keyB x.1 = false then 5 else if keyB x.2.1 = false then 5 else if leB x.1 b = true then 7 else if boT x.2.2.1 x.2.2.2.1 x.2.2.2.2.1 x.2.2.2.2.2 = false then 1 else boErr x.1 r
def boE (l : List Bo) : Int := if 500 < l.length then 2 else boErr ⟨#[]⟩ l
def BoRel (w : World) (l : List Bo) (v i : Value) (wr : World) : Prop :=
  ∃ (k : Nat) (b : ByteArray), k ≤ l.length ∧ i = .int .i64 k ∧ v = .string b ∧ boErr ⟨#[]⟩ l = boErr b (l.drop k) ∧ G w wr none
theorem boRow {W w : World} {bb bo n cap : Nat} {l : List Bo} (h : RdR W 6 boC (.slice (some ⟨bb, bo, none⟩) n cap) l) (hG : G W w none) {k : Nat} {p : Bo} (hp : l[k]? = some p) :
    ∀ j v, (boC p).toList[j]? = some v → w.cell? ((⟨bb, bo + k * 6, none⟩ : Addr).add j) = some v := fun j v hv => by
  rw [add_at]
  exact RdR.cell boC_sz h hG hp j v hv
theorem boTime {w : World} {g : Nat} {T : TypeId} {p : Bo} (h : Bk w g T (boC p)) : ∀ j v, (#[Value.int .i64 p.2.2.1, .int .i64 p.2.2.2.1] : Array Value).toList[j]? = some v → w.cell? ((⟨g, 2, none⟩ : Addr).add j) = some v := fun j v hv => by
  rw [add_at, h.cell]
  match j, hv with
  | 0, hv => exact hv
  | 1, hv => exact hv
  | n + 2, hv => simp at hv
end Go.Proofs.YtkgkbjijiapcpaaDoor

/- Extras: CheckExtras, its reference, ExtraCost, its reference. -/
namespace Go.Proofs.YtkgkbjijiapcpaaDoor
open Go.RowKit

/-- An extra: its key, Once, Day, Most. -/
abbrev Ext := ByteArray × Int × Int × Int
def exC (x : Ext) : Array Value := #[.string x.1, .int .i64 x.2.1, .int .i64 x.2.2.1, .int .i64 x.2.2.2]
theorem exC_sz (x : Ext) : (exC x).size = 4 := rfl
def ExOk (l : List Ext) : Prop := ∀ x ∈ l, Small x.1 ∧ bnd x.2.1 ∧ bnd x.2.2.1 ∧ bnd x.2.2.2
def exBad (x : Ext) : Bool := !inB x.2.1 0 1000000 || (!inB x.2.2.1 0 1000000 || !inB x.2.2.2 (-1) 1000000)
def exErr (b : ByteArray) : List Ext → Int
  | [] => 0
  | x :: r => if keyB x.1 = false then 5 else if leB x.1 b = true then 7 else if exBad x = true then 1 else exErr x.1 r
def exE (l : List Ext) : Int := if 30 < l.length then 2 else exErr ⟨#[]⟩ l
def ExRel (w : World) (l : List Ext) (v i : Value) (wr : World) : Prop :=
  ∃ (k : Nat) (b : ByteArray), k ≤ l.length ∧ i = .int .i64 k ∧ v = .string b ∧ exErr ⟨#[]⟩ l = exErr b (l.drop k) ∧ G w wr none
end Go.Proofs.YtkgkbjijiapcpaaDoor

/- Fees: CheckFees, its reference. -/
namespace Go.Proofs.YtkgkbjijiapcpaaDoor
open Go.RowKit

/-- A fee: from, to, cents. -/
abbrev Fe := ByteArray × ByteArray × Int
def feC (x : Fe) : Array Value := #[.string x.1, .string x.2.1, .int .i64 x.2.2]
theorem feC_sz (x : Fe) : (feC x).size = 3 := rfl
def FeOk (l : List Fe) : Prop := ∀ x ∈ l, Small x.1 ∧ Small x.2.1 ∧ bnd x.2.2
/-- The first that is not 0. -/
def orI (x y : Int) : Int := if x = 0 then y else x
def cmpF (x y : Fe) : Int := orI (cmpI x.1 y.1) (cmpI x.2.1 y.2.1)
set_option maxRecDepth 100000 in
set_option maxHeartbeats 1000000 in
theorem or2_c (x y : Int) (g : Nat) (w : World) (hB : Bk w g 3 #[.int .i64 x, .int .i64 y]) :
    Calls Tryd.prog 80 #[.slice (some ⟨g, 0, none⟩) 2 2] w fun e w' => e = .returned (.int .i64 (orI x y)) ∧ w = w' := by
  have hc0 := hB.cell 0
  have hc1 := hB.cell 1
  rw [show (#[Value.int .i64 x, .int .i64 y] : Array Value)[0]? = some (.int .i64 x) from rfl] at hc0
  rw [show (#[Value.int .i64 x, .int .i64 y] : Array Value)[1]? = some (.int .i64 y) from rfl] at hc1
  clear hB
  by_cases hx : x = 0
  · rw [orI, if_pos hx]
    subst hx
    by_cases hy : y = 0
    · subst hy
      go_enter Tryd.func80, Tryd.ntmps80
      go_wp2_with fail
      refine wp_loop_rounds 3 ?_
      rw [rounds_succ]
      go_wp2_with fail
      rw [rounds_succ]
      go_wp2_with fail
      rw [rounds_succ]
      go_wp2_with fail
      go_ret
      exact ⟨rfl, rfl⟩
    · have hy' : (y != 0) = true := by rw [bne_iff_ne]; exact hy
      clear hy
      go_enter Tryd.func80, Tryd.ntmps80
      go_wp2_with fail
      refine wp_loop_rounds 3 ?_
      rw [rounds_succ]
      go_wp2_with fail
      rw [rounds_succ]
      go_wp2_with fail
      go_ret
      exact ⟨rfl, rfl⟩
  · rw [orI, if_neg hx]
    have hx' : (x != 0) = true := by rw [bne_iff_ne]; exact hx
    clear hx
    go_enter Tryd.func80, Tryd.ntmps80
    go_wp2_with fail
    refine wp_loop_rounds 3 ?_
    rw [rounds_succ]
    go_wp2_with fail
    go_ret
    exact ⟨rfl, rfl⟩
def feAfter (b : Option Fe) (x : Fe) : Bool := match b with | none => false | some y => decide (0 ≤ cmpF y x)
def feErr : Option Fe → List Fe → Int
  | _, [] => 0
  | b, x :: r => if keyB x.1 = false then 5 else if keyB x.2.1 = false then 5 else if eqB x.1 x.2.1 = true then 14 else if feAfter b x = true then 7 else if inB x.2.2 0 1000000 = false then 1 else feErr (some x) r
def feE (l : List Fe) : Int := if 500 < l.length then 2 else feErr none l
def prevAt {α : Type} (l : List α) (k : Nat) : Option α := if k = 0 then none else l[k - 1]?
theorem prevAt_succ {α : Type} (l : List α) (k : Nat) (p : α) (h : l[k]? = some p) : prevAt l (k + 1) = some p := by
  unfold prevAt
  rw [if_neg (by omega), Nat.add_sub_cancel, h]
def FeRel (w : World) (l : List Fe) (i : Value) (wr : World) : Prop :=
  ∃ k : Nat, k ≤ l.length ∧ i = .int .i64 k ∧ feErr none l = feErr (prevAt l k) (l.drop k) ∧ G w wr none
end Go.Proofs.YtkgkbjijiapcpaaDoor

/- Tiers: CheckTiers; the reference's TiersFault. -/
namespace Go.Proofs.YtkgkbjijiapcpaaDoor
open Go.RowKit

/-- A tier: before, permille. -/
abbrev Ti := Int × Int
def tiC (x : Ti) : Array Value := #[.int .i64 x.1, .int .i64 x.2]
theorem tiC_sz (x : Ti) : (tiC x).size = 2 := rfl
def TiOk (l : List Ti) : Prop := ∀ x ∈ l, bnd x.1 ∧ bnd x.2
def tiAfter (b : Option Ti) (x : Ti) : Bool := match b with | none => false | some y => decide (y.1 ≤ x.1) || decide (x.2 < y.2)
def tiErr : Option Ti → List Ti → Int
  | _, [] => 0
  | b, x :: r => if inB x.1 1 5761440 = false then 1 else if inB x.2 0 1000 = false then 1 else if tiAfter b x = true then 7 else tiErr (some x) r
def tiE (l : List Ti) : Int := if 10 < l.length then 2 else tiErr none l
def TiRel (w : World) (l : List Ti) (i : Value) (wr : World) : Prop :=
  ∃ k : Nat, k ≤ l.length ∧ i = .int .i64 k ∧ tiErr none l = tiErr (prevAt l k) (l.drop k) ∧ G w wr none
theorem tiRow {W w : World} {bb bo n cap : Nat} {l : List Ti} (h : RdR W 2 tiC (.slice (some ⟨bb, bo, none⟩) n cap) l) (hG : G W w none) {k : Nat} {p : Ti} (hp : l[k]? = some p) :
    ∀ j v, (tiC p).toList[j]? = some v → w.cell? ((⟨bb, bo + k * 2, none⟩ : Addr).add j) = some v := fun j v hv => by
  rw [add_at]
  exact RdR.cell tiC_sz h hG hp j v hv
end Go.Proofs.YtkgkbjijiapcpaaDoor

/- CancelFee; the reference's CancelOf. -/
namespace Go.Proofs.YtkgkbjijiapcpaaDoor
open Go.RowKit

/-- The permille of the last tier that is meant. -/
def cnS (d a : Int) (x : Ti) : Int := if d < x.1 then x.2 else a
def cnP (l : List Ti) (d : Int) : Int := l.foldl (cnS d) 0
theorem cnP_succ {l : List Ti} {k : Nat} {p : Ti} (d : Int) (hp : l[k]? = some p) : cnP (l.take (k + 1)) d = cnS d (cnP (l.take k) d) p := by
  have hk : k < l.length := (List.getElem?_eq_some_iff.1 hp).1
  have e : l.take (k + 1) = l.take k ++ [p] := by
    rw [List.take_succ_eq_append_getElem hk, (List.getElem?_eq_some_iff.1 hp).2]
  unfold cnP
  rw [e, List.foldl_append]
  rfl
theorem cnP_rng {l : List Ti} (h : ∀ x ∈ l, 0 ≤ x.2 ∧ x.2 ≤ 1000) (d : Int) : 0 ≤ cnP l d ∧ cnP l d ≤ 1000 := by
  have : ∀ (r : List Ti) (a : Int), (∀ x ∈ r, 0 ≤ x.2 ∧ x.2 ≤ 1000) → 0 ≤ a ∧ a ≤ 1000 → 0 ≤ r.foldl (cnS d) a ∧ r.foldl (cnS d) a ≤ 1000 := by
    intro r
    induction r with
    | nil => intro a _ ha; exact ha
    | cons x r ih =>
      intro a hx ha
      refine ih _ (fun y hy => hx y (List.mem_cons_of_mem _ hy)) ?_
      unfold cnS
      split
      · exact hx x (List.mem_cons_self ..)
      · exact ha
  exact this l 0 h (by omega)
theorem tiErr_ok {l : List Ti} : ∀ {b : Option Ti}, tiErr b l = 0 → ∀ x ∈ l, 0 ≤ x.2 ∧ x.2 ≤ 1000 := by
  induction l with
  | nil => intro b _ x hx; cases hx
  | cons y r ih =>
    intro b h
    unfold tiErr at h
    split at h
    · exact absurd h (by decide)
    · split at h
      · exact absurd h (by decide)
      · rename_i h2
        split at h
        · exact absurd h (by decide)
        · intro x hx
          rcases List.mem_cons.1 hx with rfl | hx
          · simp only [inB, Bool.not_eq_false, Bool.and_eq_true, decide_eq_true_eq] at h2
            omega
          · exact ih h x hx
theorem tiE_ok {l : List Ti} (h : tiE l = 0) : ∀ x ∈ l, 0 ≤ x.2 ∧ x.2 ≤ 1000 := by
  unfold tiE at h
  split at h
  · exact absurd h (by decide)
  · exact tiErr_ok h
theorem boE_ok {b : Bo} (h : boE [b] = 0) : 0 ≤ b.2.2.1 ∧ b.2.2.1 < 5761440 := by
  have h1 : boErr ⟨#[]⟩ [b] = 0 := h
  unfold boErr at h1
  split at h1
  · exact absurd h1 (by decide)
  · split at h1
    · exact absurd h1 (by decide)
    · split at h1
      · exact absurd h1 (by decide)
      · split at h1
        · exact absurd h1 (by decide)
        · rename_i h2
          simp only [boT, Bool.not_eq_false, Bool.and_eq_true] at h2
          have := (timB_iff _ _).1 h2.1
          omega
theorem one_len (b : Bo) : ([b] : List Bo).length ≤ 1000 := by simp
theorem BoOk.one {b : Bo} (h : boB b) : BoOk [b] := fun x hx => by
  obtain rfl := List.mem_singleton.1 hx
  exact h
def cfE (l : List Ti) (b : Bo) (c t : Int) : Int := if tiE l = 0 then (if boE [b] = 0 then (if inB c 0 1000000000 = false then 1 else if momB t = false then 1 else 0) else boE [b]) else tiE l
def cfN (l : List Ti) (b : Bo) (c t : Int) : Int := if cfE l b c t = 0 then c * cnP l (b.2.2.1 - t) / 1000 else 0
end Go.Proofs.YtkgkbjijiapcpaaDoor

/- basic.Lowest. -/
namespace Go.Proofs.YtkgkbjijiapcpaaDoor
open Go.RowKit

def frC (a b : Int) : Array Value := #[.int .i64 a, .int .i64 b]
theorem fr_one (a b : Int) : (frC a b).all (·.oneCell') = true := by simp [frC, Value.oneCell']
theorem quo_wrap (n a q : Nat) (hn : n ≤ 1000000000000000000) (hq : n / a = q) : IntKind.i64.wrap ((n : Int) / (a : Int)) = (q : Int) := by
  have h2 : q ≤ n := by rw [← hq]; exact Nat.div_le_self n a
  have h1 : (n : Int) / (a : Int) = (q : Int) := by rw [← hq]; rfl
  rw [h1, IntKind.wrap_i64]
  omega
end Go.Proofs.YtkgkbjijiapcpaaDoor

/- The law's own 'booked': the odds of one booking. -/
namespace Go.Proofs.YtkgkbjijiapcpaaDoor
open Go.RowKit

def coE (l : List Bo) : Int := if boE l = 0 then (if 9 < l.length then 2 else 0) else boE l
def bo1 : Bo := (⟨#[97]⟩, ⟨#[99]⟩, 0, 1, 0, 50)
theorem bo1_ok : boB bo1 := ⟨small_of (by decide), small_of (by decide), by unfold bnd bo1; dsimp only; omega, by unfold bnd bo1; dsimp only; omega, by unfold bnd bo1; dsimp only; omega, by unfold bnd bo1; dsimp only; omega⟩
theorem coE_one : coE [bo1] = 0 := by
  have h1 : boE [bo1] = 0 := by
    show boErr ⟨#[]⟩ [bo1] = 0
    unfold boErr bo1
    dsimp only
    rw [if_neg (by rw [show keyB ⟨#[97]⟩ = true by decide]; decide), if_neg (by rw [show keyB ⟨#[99]⟩ = true by decide]; decide), if_neg (by rw [leB_cmp]; decide), if_neg (by decide)]
    rfl
  rw [coE, if_pos h1, if_neg (by decide)]
/-! A row of fractions that the call owns. -/
abbrev Fr := Int × Int
def frV (x : Fr) : Array Value := frC x.1 x.2
theorem frV_sz (x : Fr) : (frV x).size = 2 := rfl
theorem frV_one (r : Fr) : ∀ u ∈ (frV r).toList, u.oneCell' = true := by
  intro u hu
  simp [frV, frC] at hu
  rcases hu with rfl | rfl <;> rfl
def EqfRel (l m : List Fr) (w : World) (i : Value) (wr : World) : Prop := ∃ k n : Nat, k ≤ l.length ∧ i = .int .i64 k ∧ l.take k = m.take k ∧ wr = w.drewN n
theorem take_succ_eq {l m : List Fr} {k : Nat} {x : Fr} (h : l.take k = m.take k) (hx : l[k]? = some x) (hy : m[k]? = some x) : l.take (k + 1) = m.take (k + 1) := by
  rw [List.take_add_one, List.take_add_one, h, hx, hy]
end Go.Proofs.YtkgkbjijiapcpaaDoor

/- slices.Equal of lines. -/
namespace Go.Proofs.YtkgkbjijiapcpaaDoor
open Go.RowKit

theorem li_neq2 (x : Li) (w : World) : (binOp .neq 40 (.agg #[.int .i64 x.1, .string x.2.1, .int .i64 x.2.2]) (.agg #[.int .i64 x.1, .string x.2.1, .int .i64 x.2.2])).run Tryd.prog w = .ok (.bool false) w := by
  have ht : Tryd.prog.underlying 40 = some (.struct (Tryd.prog.fieldsOf 40)) := by kernel_rfl
  have hp : Tryd.prog.stoodInHeld 40 = false := by kernel_rfl
  rw [run_neq_struct, run_equalIn_agg w 9999 40 _ _ ht hp]
  simp [Tryd.underlying40, Tryd.underlying3, Tryd.underlying9, go_sem]
def Liq2Rel (l : List Li) (w : World) (i : Value) (wr : World) : Prop := ∃ k n : Nat, k ≤ l.length ∧ i = .int .i64 k ∧ wr = w.drewN n
set_option maxRecDepth 100000 in
set_option maxHeartbeats 2000000 in
theorem liEq_c (v u : Value) (l : List Li) (w : World) (hr : RdR w 3 liC v l) (hs : RdR w 3 liC u l) (hn : l.length ≤ 1000000) :
    Calls Tryd.prog 18 #[v, u] w fun e w' => e = .returned (.bool true) ∧ G w w' none := by
  have HR := Lib.hid hr
  have HS := Lib.hid hs
  obtain ⟨a, cap, rfl, hcap, hm1⟩ := RdR.form hr
  obtain ⟨a2, cap2, rfl, hcap2, hm2⟩ := RdR.form hs
  clear hr hs
  have hlq : ((l.length : Int) != (l.length : Int)) = false := by simp
  go_enter Tryd.func18, Tryd.ntmps18
  go_wp2_with fail
  go_loopw [13] (Liq2Rel l w) (fun i _ => l.length - (intOf i).toNat)
  case atStart => exact ⟨0, 0, by omega, rfl, rfl⟩
  case round =>
    obtain ⟨k, n, hk, rfl, rfl⟩ := hrel
    by_cases hlt : k < l.length
    · obtain ⟨x, hx⟩ : ∃ x, l[k]? = some x := ⟨_, List.getElem?_eq_getElem hlt⟩
      obtain ⟨bb, bo, rfl, hbb, _⟩ := RdR.elem liC_sz HR.out (G.refl w none) hx
      obtain ⟨b2, o2, rfl, hb2, _⟩ := RdR.elem liC_sz HS.out (G.refl w none) hx
      have d0 := RdR.cell liC_sz HR.out (G.refl w none) hx 0 (.int .i64 x.1) rfl
      have d1 := RdR.cell liC_sz HR.out (G.refl w none) hx 1 (.string x.2.1) rfl
      have d2 := RdR.cell liC_sz HR.out (G.refl w none) hx 2 (.int .i64 x.2.2) rfl
      have e0 := RdR.cell liC_sz HS.out (G.refl w none) hx 0 (.int .i64 x.1) rfl
      have e1 := RdR.cell liC_sz HS.out (G.refl w none) hx 1 (.string x.2.1) rfl
      have e2 := RdR.cell liC_sz HS.out (G.refl w none) hx 2 (.int .i64 x.2.2) rfl
      simp only [Nat.add_zero] at d0 e0
      have hnq := li_neq2 x
      clear hx
      go_wp2_with fail
      go_quiet (fail)
      go_wp2_with fail
      go_roundw
      case rel => exact ⟨k + 1, _, by omega, by go_num, rfl⟩
      case measure => simp [intOf]; omega
    · obtain rfl : k = l.length := by omega
      go_wp2_with fail
      go_ret
      exact ⟨rfl, (G.refl _ _).drewN _⟩
end Go.Proofs.YtkgkbjijiapcpaaDoor

/- The law's own 'priced', its parts: one rate, one hour. -/
namespace Go.Proofs.YtkgkbjijiapcpaaDoor
open Go.RowKit

/-- The one rate: class c, days 0 to 8, no price but 7 for a day. -/
def rtC : Array Value := #[.string ⟨#[99]⟩, .int .i64 0, .int .i64 9, .int .i64 (-1), .int .i64 7, .int .i64 (-1), .int .i64 (-1)]
abbrev Rt (w : World) (b : Nat) : Prop := Bk w b 69 rtC
theorem rt_info : (Tryd.prog.info? 69).map (·.size) = some rtC.size := (by kernel_rfl : (Tryd.prog.info? 69).map (·.size) = some 7)
theorem rt0 : rtC[0]? = some (.string ⟨#[99]⟩) := rfl
theorem rt1 : rtC[1]? = some (.int .i64 0) := rfl
theorem rt2 : rtC[2]? = some (.int .i64 9) := rfl
theorem rt3 : rtC[3]? = some (.int .i64 (-1)) := rfl
theorem rt4 : rtC[4]? = some (.int .i64 7) := rfl
theorem rt5 : rtC[5]? = some (.int .i64 (-1)) := rfl
theorem rt6 : rtC[6]? = some (.int .i64 (-1)) := rfl
theorem key_c1 : keyB ⟨#[99]⟩ = true := by decide
set_option maxRecDepth 100000 in
set_option maxHeartbeats 2000000 in
theorem checkRate1_c (w : World) : Calls Tryd.prog 67 #[.agg rtC] w fun e w' => e = .returned (.int .i64 0) ∧ G w w' none := by
  have hB := Bk.new w 69 rtC
  have c0 := hB.cell 0
  rw [rt0] at c0
  have c1 := hB.cell 1
  rw [rt1] at c1
  have c2 := hB.cell 2
  rw [rt2] at c2
  have c3 := hB.cell 3
  rw [rt3] at c3
  have c4 := hB.cell 4
  rw [rt4] at c4
  have c5 := hB.cell 5
  rw [rt5] at c5
  have c6 := hB.cell 6
  rw [rt6] at c6
  clear hB
  have i0 : ∀ w : World, (Instr.index 114 (.agg #[.int .i64 (-1), .int .i64 7, .int .i64 (-1), .int .i64 (-1)]) (.int .i64 0)).run Tryd.prog w = .ok (.int .i64 (-1)) w := fun _ => by kernel_rfl
  have i1 : ∀ w : World, (Instr.index 114 (.agg #[.int .i64 (-1), .int .i64 7, .int .i64 (-1), .int .i64 (-1)]) (.int .i64 1)).run Tryd.prog w = .ok (.int .i64 (7)) w := fun _ => by kernel_rfl
  have i2 : ∀ w : World, (Instr.index 114 (.agg #[.int .i64 (-1), .int .i64 7, .int .i64 (-1), .int .i64 (-1)]) (.int .i64 2)).run Tryd.prog w = .ok (.int .i64 (-1)) w := fun _ => by kernel_rfl
  have i3 : ∀ w : World, (Instr.index 114 (.agg #[.int .i64 (-1), .int .i64 7, .int .i64 (-1), .int .i64 (-1)]) (.int .i64 3)).run Tryd.prog w = .ok (.int .i64 (-1)) w := fun _ => by kernel_rfl
  go_enter Tryd.func67, Tryd.ntmps67
  go_wp2_with fail
  refine (isKey_c ⟨#[99]⟩ _ (by decide)).mono ?_; rintro e w' ⟨rfl, rfl⟩
  rw [key_c1]
  go_wp2_with fail
  refine wp_loop_rounds 5 ?_
  rw [rounds_succ]
  go_wp2_with fail
  refine (within_c _ _ _ _).mono ?_; rintro e w' ⟨rfl, rfl⟩
  rw [show inB (-1) (-1) 1000000 = true by decide]
  go_wp2_with fail
  rw [rounds_succ]
  go_wp2_with fail
  refine (within_c _ _ _ _).mono ?_; rintro e w' ⟨rfl, rfl⟩
  rw [show inB 7 (-1) 1000000 = true by decide]
  go_wp2_with fail
  rw [rounds_succ]
  go_wp2_with fail
  refine (within_c _ _ _ _).mono ?_; rintro e w' ⟨rfl, rfl⟩
  rw [show inB (-1) (-1) 1000000 = true by decide]
  go_wp2_with fail
  rw [rounds_succ]
  go_wp2_with fail
  refine (within_c _ _ _ _).mono ?_; rintro e w' ⟨rfl, rfl⟩
  rw [show inB (-1) (-1) 1000000 = true by decide]
  go_wp2_with fail
  rw [rounds_succ]
  go_wp2_with fail
  go_ret
  exact ⟨rfl, (G.refl _ _).alloc _⟩
set_option maxRecDepth 100000 in
set_option maxHeartbeats 2000000 in
theorem checkRates1_c (w : World) (b : Nat) (h : Rt w b) : Calls Tryd.prog 55 #[.slice (some ⟨b, 0, none⟩) 1 1] w fun e w' => e = .returned (.int .i64 0) ∧ G w w' none := by
  have HA := Lib.hid h.at_
  have hB := Bk.new w 69 rtC
  go_enter Tryd.func55, Tryd.ntmps55
  go_wp2_with fail
  refine wp_loop_rounds 2 ?_
  rw [rounds_succ]
  go_wp2_with (first | (refine wpList_load_at rfl 69 _ rfl ⟨b, 0, none⟩ rfl #[.string ⟨#[99]⟩, .int .i64 0, .int .i64 9, .int .i64 (-1), .int .i64 7, .int .i64 (-1), .int .i64 (-1)] _ HA.out Tryd.underlying69 rfl rt_info ?_) | (refine wpList_load_row rfl 69 _ rfl w.heap.size rfl 69 rtC (0, 0) _ hB Tryd.underlying69 rfl rt_info ?_))
  refine (checkRate1_c _).mono ?_; rintro e w1 ⟨rfl, hG1⟩
  go_wp2_with fail
  rw [rounds_succ]
  go_wp2_with fail
  go_ret
  exact ⟨rfl, ((G.refl w none).alloc _).trans hG1⟩
def tmC : Array Value := #[.int .i64 0, .int .i64 60]
set_option maxRecDepth 100000 in
theorem begun1_c (m p : Int) (w : World) (h0 : 0 ≤ m) (h1 : m ≤ 1000000000) (h2 : 1 ≤ p) (h3 : p ≤ 1000000000) : Calls Tryd.prog 71 #[.int .i64 m, .int .i64 p] w fun e w' => e = .returned (.int .i64 ((m + p - 1) / p)) ∧ w = w' := by
  go_enter Tryd.func71, Tryd.ntmps71
  go_wp2_with fail
  go_ret
  exact ⟨rfl, rfl⟩
set_option maxRecDepth 100000 in
set_option maxHeartbeats 1000000 in
theorem days1_c (w : World) : Calls Tryd.prog 69 #[.agg #[.int .i64 0, .int .i64 60]] w fun e w' => e = .returned (.tuple #[.int .i64 1, .int .i64 0]) ∧ G w w' none := by
  have hB := Bk.new w 72 #[.int .i64 0, .int .i64 60]
  go_enter Tryd.func69, Tryd.ntmps69
  go_wp2_with (refine wpList_load_row rfl 72 _ rfl w.heap.size rfl 72 #[.int .i64 0, .int .i64 60] (0, 0) _ hB Tryd.underlying72 rfl (wi_info 0 60) ?_)
  refine (isTime_c 0 60 _).mono ?_; rintro e w1 ⟨rfl, hG1⟩
  rw [show timB 0 60 = true by decide]
  have hB1 := hB.quiet hG1
  have c0 : w1.cell? ⟨w.heap.size, 0, none⟩ = some (.int .i64 0) := hB1.cell 0
  have c1 : w1.cell? ⟨w.heap.size, 1, none⟩ = some (.int .i64 60) := hB1.cell 1
  have hG01 := ((G.refl w none).alloc (.cells #[.int .i64 0, .int .i64 60] 72)).trans hG1
  clear hB hB1 hG1
  go_wp2_with fail
  refine (begun1_c _ _ _ (by omega) (by omega) (by omega) (by omega)).mono ?_; rintro e w' ⟨rfl, rfl⟩
  rw [show ((60 : Int) + 1440 - 1) / 1440 = 1 by decide]
  go_wp2_with fail
  go_ret2
  exact ⟨rfl, hG01⟩
set_option maxRecDepth 100000 in
theorem checkTime1_c (w : World) : Calls Tryd.prog 56 #[.agg #[.int .i64 0, .int .i64 60]] w fun e w' => e = .returned (.int .i64 0) ∧ G w w' none := by
  go_enter Tryd.func56, Tryd.ntmps56
  go_wp2_with fail
  refine (days1_c _).mono ?_; rintro e w1 ⟨rfl, hG1⟩
  go_wp2_with fail
  go_ret
  exact ⟨rfl, ((G.refl w none).alloc _).trans hG1⟩
set_option maxRecDepth 100000 in
set_option maxHeartbeats 1000000 in
theorem checkStay1_c (w : World) (b : Nat) (h : Rt w b) : Calls Tryd.prog 49 #[.slice (some ⟨b, 0, none⟩) 1 1, .string ⟨#[99]⟩, .agg #[.int .i64 0, .int .i64 60]] w fun e w' => e = .returned (.int .i64 0) ∧ G w w' none := by
  have hT := Bk.new w 72 #[.int .i64 0, .int .i64 60]
  have hR := h.alloc (.cells #[.int .i64 0, .int .i64 60] 72)
  go_enter Tryd.func49, Tryd.ntmps49
  go_wp2_with fail
  refine (checkRates1_c _ b hR).mono ?_; rintro e w1 ⟨rfl, hG1⟩
  have hT1 := hT.quiet hG1
  have hG01 := ((G.refl w none).alloc (.cells #[.int .i64 0, .int .i64 60] 72)).trans hG1
  clear hT hR hG1
  go_wp2_with fail
  refine (isKey_c ⟨#[99]⟩ _ (by decide)).mono ?_; rintro e w' ⟨rfl, rfl⟩
  rw [key_c1]
  have c0 := hT1.cell 0
  have c1 := hT1.cell 1
  rw [show (#[Value.int .i64 0, .int .i64 60] : Array Value)[0]? = some (.int .i64 0) from rfl] at c0
  rw [show (#[Value.int .i64 0, .int .i64 60] : Array Value)[1]? = some (.int .i64 60) from rfl] at c1
  go_wp2_with fail
  refine (checkTime1_c _).mono ?_; rintro e w2 ⟨rfl, hG2⟩
  go_wp2_with fail
  go_ret
  exact ⟨rfl, hG01.trans hG2⟩
set_option maxRecDepth 100000 in
set_option maxHeartbeats 1000000 in
theorem seasonOn1_c (w : World) (b : Nat) (h : Rt w b) : Calls Tryd.prog 57 #[.slice (some ⟨b, 0, none⟩) 1 1, .string ⟨#[99]⟩, .int .i64 0] w fun e w' => e = .returned (.pointer (some ⟨b, 0, none⟩)) ∧ G w w' none := by
  have c0 := h.cell 0
  have c1 := h.cell 1
  have c2 := h.cell 2
  rw [rt0] at c0
  rw [rt1] at c1
  rw [rt2] at c2
  go_enter Tryd.func57, Tryd.ntmps57
  go_wp2_with fail
  refine wp_loop_rounds 2 ?_
  rw [rounds_succ]
  go_wp2_with fail
  go_ret
  exact ⟨rfl, G.refl _ _⟩
end Go.Proofs.YtkgkbjijiapcpaaDoor

/- A region that draws its order, whose loads are taken first: what they read holds until one store comes up, and that store waits for each of them. No program. -/
namespace Go.Proofs.YtkgkbjijiapcpaaDoor
open Go.RowKit
section
variable {P : Program} {ops : Array Oper} {Q : Exit → Act → World → Prop} {md : Region.Mode} {S : World → Prop} {k : Nat}
/-- Whatever order is picked from here on; 'S' holds behind every operation, until number 'k' has come up. -/
def wpAnyK (P : Program) (md : Region.Mode) (ops : Array Oper) (Q : Exit → Act → World → Prop) (S : World → Prop) (k : Nat) : Nat → Array Bool → Act → World → Prop
  | 0, listed, a, w => Region.ready md ops listed = [] ∧ Q .normal a w
  | fuel + 1, listed, a, w =>
    (Region.ready md ops listed = [] → Q .normal a w) ∧
    ∀ i ∈ Region.ready md ops listed, wpOp P ops Q i (fun a' w' => (i ≠ k → listed.getD k true = false → S w') ∧ wpAnyK P md ops Q S k fuel (listed.setIfInBounds i true) a' w') a w
theorem wpAny_of_K : ∀ (fuel : Nat) (listed : Array Bool) (a : Act) (w : World), wpAnyK P md ops Q S k fuel listed a w → wpAny P md ops Q fuel listed a w
  | 0, _, _, _, h => h
  | fuel + 1, _, _, _, h => ⟨h.1, fun i hi => wpOp_mono (fun a' w' h' => wpAny_of_K fuel _ a' w' h'.2) (h.2 i hi)⟩
/-- Once 'k' has come up nothing more is asked. -/
theorem wpAnyK_of_any : ∀ (fuel : Nat) (listed : Array Bool) (a : Act) (w : World), listed.getD k true = true → wpAny P md ops Q fuel listed a w → wpAnyK P md ops Q S k fuel listed a w
  | 0, _, _, _, _, h => h
  | fuel + 1, listed, a, w, hk, h => by
    refine ⟨h.1, fun i hi => ?_⟩
    have hk' : (listed.setIfInBounds i true).getD k true = true := by
      by_cases e : i = k
      · subst e
        by_cases hlt : i < listed.size
        · simp [hlt]
        · simp [hlt]
      · rw [getD_set_ne true e]; exact hk
    refine wpOp_mono (K := wpAny P md ops Q fuel (listed.setIfInBounds i true)) (fun a' w' h' => ?_) (h.2 i hi)
    refine ⟨fun _ h0 => ?_, wpAnyK_of_any fuel _ a' w' hk' h'⟩
    rw [hk] at h0
    cases h0
theorem wpAnyK_first {i : Nat} {oi : Oper} {v : Value} {S' : World → Prop} (hi : ops[i]? = some oi) (hsel : ∀ (j : Nat) (o : Oper) cs b, ops[j]? = some o → o.op ≠ .select cs b) (hik : i ≠ k)
    (hQ : ∀ c a w, Q (.panic c) (a.put oi.dst v) w → Q (.panic c) a w) (hw : (∀ w, S' w) ∨ (S' = S ∧ ∃ ok, ops[k]? = some ok ∧ ∃ e ∈ ok.after, Region.binds md e = true ∧ e.on = i)) :
    ∀ (fuel : Nat) (listed : Array Bool) (a : Act) (w : World),
      (∀ j oj, ops[j]? = some oj → j ≠ i → listed.getD j true = false → (∀ e ∈ oj.after, Region.binds md e = true → e.on ≠ i) → oi.apart ops oj = true) →
      i ∈ Region.ready md ops listed → listed.getD k true = false ∨ (∀ w, S' w) → YieldsIf P ops S' oi v a → (listed.getD k true = false → S w) → S' w →
      wpAnyK P md ops Q S k fuel (listed.setIfInBounds i true) (a.put oi.dst v) w → wpAnyK P md ops Q S k (fuel + 1) listed a w := by
  intro fuel
  induction fuel with
  | zero =>
    intro listed a w _ hr _ hy hS hS' H
    refine ⟨fun h => (by rw [h] at hr; cases hr), fun j hj => ?_⟩
    by_cases hji : j = i
    · subst hji; exact hy.wpOp hi hS' ⟨fun _ h0 => hS h0, H⟩
    · have := ready_mono hj hji
      rw [H.1] at this
      cases this
  | succ fuel ih =>
    intro listed a w hfree hr hun0 hy hS hS' H
    refine ⟨fun h => (by rw [h] at hr; cases hr), fun j hj => ?_⟩
    by_cases hji : j = i
    · subst hji; exact hy.wpOp hi hS' ⟨fun _ h0 => hS h0, H⟩
    · have h1 := H.2 j (ready_mono hj hji)
      obtain ⟨hjun, oj, hoj, hall⟩ := mem_ready.1 hj
      have hnot : ∀ e ∈ oj.after, Region.binds md e = true → e.on ≠ i := fun e he hb heq => by
        have h1 := hall e he hb
        have h0 := (mem_ready.1 hr).1
        rw [heq] at h1
        rcases Nat.lt_or_ge i listed.size with h' | h'
        · simp [h'] at h0 h1; rw [h0] at h1; cases h1
        · simp [Array.getElem?_eq_none h'] at h1
      have h2 := wpOp_putIf hoj (hfree j oj hoj hji hjun hnot) (fun cs b => hsel i oi cs b hi) (fun cs b => hsel j oj cs b hoj) hQ hy h1
      have hfree' : ∀ k ok, ops[k]? = some ok → k ≠ i → (listed.setIfInBounds j true).getD k true = false →
          (∀ e ∈ ok.after, Region.binds md e = true → e.on ≠ i) → oi.apart ops ok = true := fun k ok hk hki hun hno => by
        refine hfree k ok hk hki ?_ hno
        by_cases hjk : j = k
        · subst hjk; exact hjun
        · rw [getD_set_ne true hjk] at hun; exact hun
      refine wpOp_mono (fun a' w' h3 => ?_) h2
      obtain ⟨hy', hT, hrest⟩ := h3
      have hTj : j ≠ k → listed.getD k true = false → S w' := fun hjk h0 => hT hjk (by rw [getD_set_ne true hik]; exact h0)
      refine ⟨hTj, ?_⟩
      have hrest' : wpAnyK P md ops Q S k fuel ((listed.setIfInBounds j true).setIfInBounds i true) (a'.put oi.dst v) w' := by
        rw [Array.setIfInBounds_comm _ _ hji]
        exact hrest
      rcases hw with hw | ⟨rfl, ok, hok, e, he, hb, hei⟩
      · refine ih (listed.setIfInBounds j true) a' w' hfree' (ready_mono hr (Ne.symm hji)) (.inr hw) hy' (fun h0 => ?_) (hw w') hrest'
        by_cases hjk : j = k
        · subst hjk
          exfalso
          have hjs : j < listed.size := by
            rcases Nat.lt_or_ge j listed.size with h' | h'
            · exact h'
            · have := (mem_ready.1 hj).1
              simp [Array.getElem?_eq_none h'] at this
          simp [hjs] at h0
        · exact hTj hjk (by rw [getD_set_ne true hjk] at h0; exact h0)
      · have hjk : j ≠ k := by
          rintro rfl
          rw [hoj] at hok
          obtain rfl := Option.some.inj hok
          exact hnot e he hb hei
        rcases hun0 with h0 | hall'
        · have hs' := hTj hjk h0
          exact ih (listed.setIfInBounds j true) a' w' hfree' (ready_mono hr (Ne.symm hji)) (.inl (by rw [getD_set_ne true hjk]; exact h0)) hy' (fun _ => hs') hs' hrest'
        · exact ih (listed.setIfInBounds j true) a' w' hfree' (ready_mono hr (Ne.symm hji)) (.inr hall') hy' (fun _ => hall' w') (hall' w') hrest'
/-- Take first what yields in whatever world. -/
theorem wpAnyK_take {i : Nat} {oi : Oper} {v : Value} {fuel : Nat} {listed : Array Bool} {a : Act} {w : World} (hi : ops[i]? = some oi) (hik : i ≠ k)
    (hs : Region.noSelect ops = true) (hf : Region.free md ops listed i = true) (hr : (Region.ready md ops listed).contains i = true)
    (hQ : ∀ c a w, Q (.panic c) (a.put oi.dst v) w → Q (.panic c) a w) (hy : YieldsIf P ops (fun _ => True) oi v a) (hS : S w)
    (h : wpAnyK P md ops Q S k fuel (listed.setIfInBounds i true) (a.put oi.dst v) w) : wpAnyK P md ops Q S k (fuel + 1) listed a w :=
  wpAnyK_first (S' := fun _ => True) hi (Region.noSelect_spec hs) hik hQ (.inl fun _ => trivial) fuel listed a w (Region.free_spec hi hf) (by simpa using hr) (.inr fun _ => trivial) hy (fun _ => hS) trivial h
def waitsB (md : Region.Mode) (ops : Array Oper) (k i : Nat) : Bool := match ops[k]? with | some o => o.after.any fun e => Region.binds md e && e.on == i | none => false
/-- Take first what yields in every world that meets S; 'k' waits for it. -/
theorem wpAnyK_load {i : Nat} {oi : Oper} {v : Value} {fuel : Nat} {listed : Array Bool} {a : Act} {w : World} (hi : ops[i]? = some oi) (hik : i ≠ k)
    (hs : Region.noSelect ops = true) (hf : Region.free md ops listed i = true) (hr : (Region.ready md ops listed).contains i = true) (hwt : waitsB md ops k i = true) (hun : listed.getD k true = false)
    (hQ : ∀ c a w, Q (.panic c) (a.put oi.dst v) w → Q (.panic c) a w) (hy : YieldsIf P ops S oi v a) (hS : S w)
    (h : wpAnyK P md ops Q S k fuel (listed.setIfInBounds i true) (a.put oi.dst v) w) : wpAnyK P md ops Q S k (fuel + 1) listed a w := by
  refine wpAnyK_first hi (Region.noSelect_spec hs) hik hQ (.inr ⟨rfl, ?_⟩) fuel listed a w (Region.free_spec hi hf) (by simpa using hr) (.inl hun) hy (fun _ => hS) hS h
  unfold waitsB at hwt
  split at hwt
  · rename_i ok hok
    rw [Array.any_eq_true'] at hwt
    obtain ⟨e, he, h2⟩ := hwt
    rw [Bool.and_eq_true, beq_iff_eq] at h2
    exact ⟨ok, hok, e, he, h2.1, h2.2⟩
  · cases hwt
theorem wpAnyK_all {rs : List Nat} {fuel : Nat} {listed : Array Bool} {a : Act} {w : World} (hr : Region.ready md ops listed = rs) (hne : rs ≠ [])
    (h : ∀ i ∈ rs, wpOp P ops Q i (fun a' w' => (i ≠ k → listed.getD k true = false → S w') ∧ wpAnyK P md ops Q S k fuel (listed.setIfInBounds i true) a' w') a w) : wpAnyK P md ops Q S k (fuel + 1) listed a w :=
  ⟨fun h0 => absurd (hr ▸ h0) hne, hr ▸ h⟩
theorem k_one {fuel : Nat} {listed : Array Bool} {a : Act} {w : World} {i : Nat} {o : Oper} (hr : Region.ready md ops listed = [i]) (ho : ops[i]? = some o)
    (h : ∀ K' : Act → World → Prop, (∀ a w, (i ≠ k → S w) → wpAnyK P md ops Q S k fuel (listed.setIfInBounds i true) a w → K' a w) → if Region.wanted o (yielded ops a.tmps) = true then Oper.wp P o a w K' Q else K' (a.put o.dst undef) w) : wpAnyK P md ops Q S k (fuel + 1) listed a w :=
  wpAnyK_all hr (by simp) fun j hj => by
    obtain rfl := List.mem_singleton.1 hj
    exact wpOp_step ho (fun K' hK => h K' (fun a w hS hW => hK a w ⟨fun h1 _ => hS h1, hW⟩))
theorem k_two {fuel : Nat} {listed : Array Bool} {a : Act} {w : World} {i j : Nat} {o o2 : Oper} (hr : Region.ready md ops listed = [i, j]) (ho : ops[i]? = some o) (ho2 : ops[j]? = some o2)
    (h : ∀ K' : Act → World → Prop, (∀ a w, (i ≠ k → S w) → wpAnyK P md ops Q S k fuel (listed.setIfInBounds i true) a w → K' a w) → if Region.wanted o (yielded ops a.tmps) = true then Oper.wp P o a w K' Q else K' (a.put o.dst undef) w)
    (h2 : ∀ K' : Act → World → Prop, (∀ a w, (j ≠ k → S w) → wpAnyK P md ops Q S k fuel (listed.setIfInBounds j true) a w → K' a w) → if Region.wanted o2 (yielded ops a.tmps) = true then Oper.wp P o2 a w K' Q else K' (a.put o2.dst undef) w) : wpAnyK P md ops Q S k (fuel + 1) listed a w :=
  wpAnyK_all hr (by simp) fun x hx => by
    rcases List.mem_cons.1 hx with rfl | hx
    · exact wpOp_step ho (fun K' hK => h K' (fun a w hS hW => hK a w ⟨fun h1 _ => hS h1, hW⟩))
    · obtain rfl := List.mem_singleton.1 hx
      exact wpOp_step ho2 (fun K' hK => h2 K' (fun a w hS hW => hK a w ⟨fun h1 _ => hS h1, hW⟩))
end
end Go.Proofs.YtkgkbjijiapcpaaDoor

/- The law's own 'priced': the stay of one rental day. -/
namespace Go.Proofs.YtkgkbjijiapcpaaDoor
open Go.RowKit

/-- One season, at the rate's block. -/
def Se (w : World) (v : Value) (b : Nat) : Prop := ∃ g cap, v = .slice (some ⟨g, 0, none⟩) 1 cap ∧ 1 ≤ cap ∧ cap ≤ maxLen ∧ g < w.heap.size ∧ w.cell? ⟨g, 0, none⟩ = some (.pointer (some ⟨b, 0, none⟩))
theorem Se.quiet {w w' : World} {v : Value} {b : Nat} (h : Se w v b) (hG : G w w' none) : Se w' v b := by
  obtain ⟨g, cap, rfl, h1, h2, h3, h4⟩ := h
  exact ⟨g, cap, rfl, h1, h2, Nat.lt_of_lt_of_le h3 hG.size, ((gcell hG).1 g _ h3).trans h4⟩
theorem sp_row : (Tryd.prog.info? 95).map (fun i => (i.zero, i.size, i.bytes)) = some (some (.pointer none), 1, 8) := by kernel_rfl
/-- An address appended to nothing. -/
theorem wp_append_sp {w : World} {o : Oper} {a : Act} {K : Act → World → Prop} {Q : Exit → Act → World → Prop} (s x : Operand)
    (ho : o.op = .call { callee := .builtin .append, args := #[s, x], argTypes := #[82, 82] }) (hs : a.eval s = .slice none 0 0)
    (g b : Nat) (hx : a.eval x = .slice (some ⟨g, 0, none⟩) 1 1) (hb : Bk w g 95 #[.pointer (some ⟨b, 0, none⟩)])
    (hK : ∀ v' w', Se w' v' b → (∀ g, v'.ownBlock = some g → w.heap.size ≤ g) → G w w' none → K (a.put o.dst v') w') : o.wp Tryd.prog a w K Q := by
  obtain ⟨i0, hi, hz0, hz1, hz2⟩ := info_parts sp_row
  refine wp_append_own w s x 82 ho w.heap.size 95 i0 _ 1 8 Tryd.underlying82 hi hz0 hz1 hz2 rfl (by decide) (.slice none 0 0) 0 [] hs (World.ownsRow_nil _ _ _ _) ⟨g, 0, none⟩ 1 1 [.pointer (some ⟨b, 0, none⟩)] hx rfl hb.at_ (by simp [Value.oneCell']) (by unfold maxLen; omega) (by omega) (Nat.le_refl _) ?_
  intro v w7 hown hgrow _
  refine hK v w7 ?_ (fun g e => (World.ownsRow.lt hown g e).1) hgrow
  obtain ⟨o1, o2⟩ := hown
  rcases o2 with ⟨_, o3⟩ | ⟨g, cap, cur, rfl, k1, k2, k3, k4, k5, k6⟩
  · omega
  · refine ⟨g, cap, rfl, by omega, k4, (Array.getElem?_eq_some_iff.1 k2).1, ?_⟩
    rw [cell_of_row w7 g 0 cur _ _ k2]
    have := congrArg (fun l : List Value => l[0]?) k6
    simpa using this
abbrev syC (v : Value) : Array Value := #[.int .i64 0, .int .i64 60, v]
theorem sy_info (v : Value) : (Tryd.prog.info? 84).map (·.size) = some (syC v).size := (by kernel_rfl : (Tryd.prog.info? 84).map (·.size) = some 3)
set_option maxRecDepth 100000 in
set_option maxHeartbeats 4000000 in
theorem stayOf1_c (w : World) (b : Nat) (h : Rt w b) : Calls Tryd.prog 50 #[.slice (some ⟨b, 0, none⟩) 1 1, .string ⟨#[99]⟩, .agg #[.int .i64 0, .int .i64 60]] w fun e w' => ∃ v, e = .returned (.agg (syC v)) ∧ Se w' v b ∧ G w w' none := by
  go_enter Tryd.func50, Tryd.ntmps50
  go_wp2_with fail
  refine wp_loop_rounds 2 ?_
  rw [rounds_succ]
  go_wp2_with fail
  have hB0 : Bk (((w.alloc (.cells #[.int .i64 0, .int .i64 60] 72)).alloc (.cells #[.int .i64 0, .int .i64 0, .slice none 0 0] 84)).alloc (.cells #[.int .i64 0, .int .i64 60, .slice none 0 0] 84)) w.heap.size 72 #[.int .i64 0, .int .i64 60] := ((Bk.new w _ _).alloc _).alloc _
  have hB1 : Bk (((w.alloc (.cells #[.int .i64 0, .int .i64 60] 72)).alloc (.cells #[.int .i64 0, .int .i64 0, .slice none 0 0] 84)).alloc (.cells #[.int .i64 0, .int .i64 60, .slice none 0 0] 84)) (w.heap.size + 1) 84 #[.int .i64 0, .int .i64 0, .slice none 0 0] := (Bk.newAt (by simp) _ _).alloc _
  have hB2 : Bk (((w.alloc (.cells #[.int .i64 0, .int .i64 60] 72)).alloc (.cells #[.int .i64 0, .int .i64 0, .slice none 0 0] 84)).alloc (.cells #[.int .i64 0, .int .i64 60, .slice none 0 0] 84)) (w.heap.size + 1 + 1) 84 #[.int .i64 0, .int .i64 60, .slice none 0 0] := Bk.newAt (by simp) _ _
  have hR : Rt (((w.alloc (.cells #[.int .i64 0, .int .i64 60] 72)).alloc (.cells #[.int .i64 0, .int .i64 0, .slice none 0 0] 84)).alloc (.cells #[.int .i64 0, .int .i64 60, .slice none 0 0] 84)) b := ((h.alloc _).alloc _).alloc _
  have hG : G w (((w.alloc (.cells #[.int .i64 0, .int .i64 60] 72)).alloc (.cells #[.int .i64 0, .int .i64 0, .slice none 0 0] 84)).alloc (.cells #[.int .i64 0, .int .i64 60, .slice none 0 0] 84)) none := (((G.refl w none).alloc _).alloc _).alloc _
  generalize (((w.alloc (.cells #[.int .i64 0, .int .i64 60] 72)).alloc (.cells #[.int .i64 0, .int .i64 0, .slice none 0 0] 84)).alloc (.cells #[.int .i64 0, .int .i64 60, .slice none 0 0] 84)) = w3 at hB0 hB1 hB2 hR hG ⊢
  obtain ⟨g0, hg0⟩ : ∃ g, w.heap.size = g := ⟨_, rfl⟩
  have hg1 : w.heap.size + 1 = g0 + 1 := by omega
  have hg2 : w.heap.size + 1 + 1 = g0 + 1 + 1 := by omega
  rw [hg0] at hB0 hB1 hB2 ⊢
  obtain ⟨g1, h1⟩ : ∃ g, g0 + 1 = g := ⟨_, rfl⟩
  rw [h1] at hB1 hB2 ⊢
  obtain ⟨g2, h2⟩ : ∃ g, g1 + 1 = g := ⟨_, rfl⟩
  rw [h2] at hB2 ⊢
  refine wp_region_any (by kernel_rfl) ?_
  change wpAny _ _ _ _ _ _ _ (World.drew _)
  have hB0 := hB0.quiet ((G.refl w3 none).drew)
  have hB1 := hB1.quiet ((G.refl w3 none).drew)
  have hB2 := hB2.quiet ((G.refl w3 none).drew)
  have hR := hR.quiet ((G.refl w3 none).drew)
  have hG := hG.drew
  generalize w3.drew = w4 at hB0 hB1 hB2 hR hG ⊢
  have hc2 : w4.cell? ⟨g2, 2, none⟩ = some (.slice none 0 0) := hB2.cell 2
  have hw0 : IntKind.i64.wrap 0 = 0 := by rw [IntKind.wrap_i64]; omega
  refine wpAny_of_K (S := fun w' => w'.cell? ⟨g2, 2, none⟩ = some (.slice none 0 0)) (k := 10) _ _ _ _ ?_
  refine wpAnyK_take (i := 0) (v := .pointer (some ⟨g2, 2, none⟩)) rfl (by decide) (by kernel_rfl) (by kernel_rfl) (by kernel_rfl) (fun _ _ _ h => h) (Or.inl ⟨by rfl, fun w _ => by go_simp⟩) hc2 ?_
  refine wpAnyK_load (i := 1) (v := .slice none 0 0) rfl (by decide) (by kernel_rfl) (by kernel_rfl) (by kernel_rfl) (by kernel_rfl) (by kernel_rfl) (fun _ _ _ h => h) (Or.inl ⟨by rfl, fun w hw => by have hw := hw; go_simp⟩) hc2 ?_
  refine wpAnyK_take (i := 2) (v := .slice (some ⟨b, 0, none⟩) 1 1) rfl (by decide) (by kernel_rfl) (by kernel_rfl) (by kernel_rfl) (fun _ _ _ h => h) (Or.inl ⟨by rfl, fun w _ => by go_simp⟩) hc2 ?_
  refine wpAnyK_take (i := 3) (v := .string ⟨#[99]⟩) rfl (by decide) (by kernel_rfl) (by kernel_rfl) (by kernel_rfl) (fun _ _ _ h => h) (Or.inl ⟨by rfl, fun w _ => by go_simp⟩) hc2 ?_
  refine wpAnyK_take (i := 4) (v := .int .i64 0) rfl (by decide) (by kernel_rfl) (by kernel_rfl) (by kernel_rfl) (fun _ _ _ h => h) (Or.inl ⟨by rfl, fun w _ => by go_simp⟩) hc2 ?_
  refine wpAnyK_take (i := 5) (v := .int .i64 0) rfl (by decide) (by kernel_rfl) (by kernel_rfl) (by kernel_rfl) (fun _ _ _ h => h) (Or.inl ⟨by rfl, fun w _ => by go_simp⟩) hc2 ?_
  refine k_one (i := 6) (by kernel_rfl) rfl fun K' hK => ?_
  refine st_call rfl (f := 57) (args := #[.slice (some ⟨b, 0, none⟩) 1 1, .string ⟨#[99]⟩, .int .i64 0]) (w1 := w4) (by go_simp) ?_
  refine (seasonOn1_c w4 b hR).mono ?_; rintro e w5 ⟨rfl, hG5⟩
  have hc5 : w5.cell? ⟨g2, 2, none⟩ = some (.slice none 0 0) := (hB2.quiet hG5).cell 2
  refine ⟨_, rfl, hK _ _ (fun _ => hc5) ?_⟩
  clear hK K'
  have hB0 := hB0.quiet hG5
  have hB1 := hB1.quiet hG5
  have hB2 := hB2.quiet hG5
  have hG := hG.trans hG5
  clear hG5 hR hc2
  refine k_one (i := 7) (by kernel_rfl) rfl fun K' hK => ?_
  refine st_val rfl (v := .slice (some ⟨w5.heap.size, 0, none⟩) 1 1) (w' := w5.alloc (.cells #[.pointer (some ⟨b, 0, none⟩)] 95)) (by go_simp) ?_
  refine hK _ _ (fun _ => (hB2.alloc _).cell 2) ?_
  clear hK K'
  have hP := Bk.new w5 95 #[.pointer (some ⟨b, 0, none⟩)]
  have hB0 := hB0.alloc (.cells #[.pointer (some ⟨b, 0, none⟩)] 95)
  have hB1 := hB1.alloc (.cells #[.pointer (some ⟨b, 0, none⟩)] 95)
  have hB2 := hB2.alloc (.cells #[.pointer (some ⟨b, 0, none⟩)] 95)
  have hG := hG.alloc (.cells #[.pointer (some ⟨b, 0, none⟩)] 95)
  clear hc5
  obtain ⟨g5, hg5⟩ : ∃ g, w5.heap.size = g := ⟨_, rfl⟩
  rw [hg5] at hP ⊢
  generalize w5.alloc (.cells #[.pointer (some ⟨b, 0, none⟩)] 95) = w6 at hP hB0 hB1 hB2 hG ⊢
  clear hg5
  have hl2 := hB2.lt
  refine k_one (i := 8) (by kernel_rfl) rfl fun K' hK => ?_
  refine st_wp rfl (wp_append_sp (.tmp 20) (.tmp 26) rfl (by go_simp) g5 b (by go_simp) hP fun v w7 hSe hvne hG7 => ?_)
  refine hK _ _ (fun _ => (hB2.quiet hG7).cell 2) ?_
  clear hK K'
  have hB0 := hB0.quiet hG7
  have hB1 := hB1.quiet hG7
  have hB2 := hB2.quiet hG7
  have hG := hG.trans hG7
  clear hP hG7
  refine wpAnyK_take (i := 9) (v := .pointer (some ⟨g2, 2, none⟩)) rfl (by decide) (by kernel_rfl) (by kernel_rfl) (by kernel_rfl) (fun _ _ _ h => h) (Or.inl ⟨by rfl, fun w _ => by go_simp⟩) (hB2.cell 2) ?_
  obtain ⟨gs, cap, rfl, q1, q2, q3, q4⟩ := hSe
  have hc1 := hB2.cell 2
  rw [show (#[Value.int .i64 0, .int .i64 60, .slice none 0 0] : Array Value)[2]? = some (.slice none 0 0) from rfl] at hc1
  have hf1 := hB2.free 2
  refine k_one (i := 10) (by kernel_rfl) rfl fun K' hK => ?_
  rw [if_pos (by rfl)]
  go_simp
  refine hK _ _ (fun h => absurd rfl h) ?_
  clear hK K' hc1 hf1
  refine wpAnyK_of_any _ _ _ _ (by kernel_rfl) ?_
  refine wpAny_done (by kernel_rfl) ?_ _
  have hne1 : gs ≠ g1 := by have := hvne gs rfl; omega
  have hne : ∀ g, (Value.slice (some ⟨gs, 0, none⟩) 1 cap).ownBlock = some g → g ≠ g2 := fun g e => by have := hvne g e; omega
  have hSe8 : Se (w7.setCell ⟨g2, 2, none⟩ (.slice (some ⟨gs, 0, none⟩) 1 cap)) (.slice (some ⟨gs, 0, none⟩) 1 cap) b := by
    refine ⟨gs, cap, rfl, q1, q2, by simpa [World.setCell] using q3, ?_⟩
    rw [← q4]
    exact World.cell?_of_block (w := w7) (Below.heap_setCell _ _ _ _ (hne gs rfl))
  have hB0 := hB0.far (p := ⟨g2, 2, none⟩) (by show g0 ≠ g2; omega) (.slice (some ⟨gs, 0, none⟩) 1 cap)
  have hB1 := hB1.far (p := ⟨g2, 2, none⟩) (by show g1 ≠ g2; omega) (.slice (some ⟨gs, 0, none⟩) 1 cap)
  have hB2 : Bk (w7.setCell ⟨g2, 2, none⟩ (.slice (some ⟨gs, 0, none⟩) 1 cap)) g2 84 #[.int .i64 0, .int .i64 60, .slice (some ⟨gs, 0, none⟩) 1 cap] := hB2.set 2 (.slice (some ⟨gs, 0, none⟩) 1 cap)
  have hG := hG.setCell (p := ⟨g2, 2, none⟩) (.inl (by show w.heap.size ≤ g2; omega)) (.slice (some ⟨gs, 0, none⟩) 1 cap)
  clear q3 q4 hvne hl2
  generalize w7.setCell ⟨g2, 2, none⟩ (.slice (some ⟨gs, 0, none⟩) 1 cap) = w8 at hSe8 hB0 hB1 hB2 hG ⊢
  have c1 := hB0.cell 1
  rw [show (#[Value.int .i64 0, .int .i64 60] : Array Value)[1]? = some (.int .i64 60) from rfl] at c1
  go_wp2_with fail
  rw [rounds_succ]
  go_wp2_with (first | (refine wpList_load_row rfl 84 _ rfl g2 rfl 84 #[.int .i64 0, .int .i64 60, .slice (some ⟨gs, 0, none⟩) 1 cap] (0, 0) _ hB2 Tryd.underlying84 rfl (sy_info _) ?_) | (refine wpList_store_row rfl 84 _ _ rfl g1 #[.int .i64 0, .int .i64 60, .slice (some ⟨gs, 0, none⟩) 1 cap] rfl rfl 84 _ hB1 (sy_info _) rfl (by simp [Value.oneCell']) ?_))
  refine bodyPost_ret (results_cell_row rfl _ _ g1 84 (syC (.slice (some ⟨gs, 0, none⟩) 1 cap)) (0, 0) _ rfl (hB1.setRow _) Tryd.underlying84 rfl (sy_info _)) rfl ?_
  refine ⟨_, rfl, ?_, hG.setRow (.inl (by omega)) _⟩
  obtain ⟨g', cap', e', q1', q2', q3', q4'⟩ := hSe8
  obtain ⟨rfl, rfl⟩ : gs = g' ∧ cap = cap' := by cases e'; exact ⟨rfl, rfl⟩
  refine ⟨gs, cap, rfl, q1', q2', by simpa using q3', ?_⟩
  rw [← q4']
  exact World.cell?_of_block (w := w8) (setRow_other w8 g1 gs _ hne1)
end Go.Proofs.YtkgkbjijiapcpaaDoor

/- The law's own 'priced': what a stay of one rental day tells. -/
namespace Go.Proofs.YtkgkbjijiapcpaaDoor
open Go.RowKit

theorem run_neq_ptr_same {P : Program} (w : World) {tp te : TypeId} {j : TypeInfo} (a : Addr) (hp : P.underlying tp = some (.pointer te)) (hte : P.info? te = some j) :
    (binOp .neq tp (.pointer (some a)) (.pointer (some a))).run P w = .ok (.bool false) w := by
  have h : ∀ d : Nat, (Op.equalIn (d + 1) tp (.pointer (some a)) (.pointer (some a))).run P w = .ok true w := fun d => by
    simp [Op.equalIn, run_underlying hp, sizeOf, typeInfo, hte, run_sameAddr_same]
  simp only [binOp]
  simp [Op.equal, Op.maxDepth, h 9999]
set_option maxRecDepth 100000 in
theorem stDays1_c (v : Value) (b : Nat) (w : World) (h : Se w v b) : Calls Tryd.prog 52 #[.agg (syC v)] w fun e w' => e = .returned (.int .i64 1) ∧ G w w' none := by
  obtain ⟨g, cap, rfl, q1, q2, q3, q4⟩ := h
  go_enter Tryd.func52, Tryd.ntmps52
  go_wp2_with fail
  go_ret
  exact ⟨rfl, (G.refl _ _).alloc _⟩
set_option maxRecDepth 100000 in
theorem begins0_c (v : Value) (w : World) : Calls Tryd.prog 73 #[.agg (syC v), .int .i64 0] w fun e w' => e = .returned (.int .i64 0) ∧ G w w' none := by
  go_enter Tryd.func73, Tryd.ntmps73
  go_wp2_with fail
  go_ret
  exact ⟨rfl, (G.refl _ _).alloc _⟩
set_option maxRecDepth 100000 in
theorem begins1_c (v : Value) (w : World) : Calls Tryd.prog 73 #[.agg (syC v), .int .i64 1] w fun e w' => e = .returned (.int .i64 1440) ∧ G w w' none := by
  go_enter Tryd.func73, Tryd.ntmps73
  go_wp2_with fail
  go_ret
  exact ⟨rfl, (G.refl _ _).alloc _⟩
set_option maxRecDepth 100000 in
set_option maxHeartbeats 1000000 in
theorem ends1_c (v : Value) (w : World) : Calls Tryd.prog 72 #[.agg (syC v), .int .i64 0] w fun e w' => e = .returned (.int .i64 60) ∧ G w w' none := by
  have hB := Bk.new w 84 (syC v)
  have hG := (G.refl w none).alloc (.cells (syC v) 84)
  have hw1 : IntKind.i64.wrap (0 + 1) = 1 := by rw [IntKind.wrap_i64]; omega
  have hw2 : IntKind.i64.wrap 1 = 1 := by rw [IntKind.wrap_i64]; omega
  go_enter Tryd.func72, Tryd.ntmps72
  go_wp2_with fail
  have hgl := hB.lt
  generalize w.alloc (.cells (syC v) 84) = w3 at hB hG hgl ⊢
  generalize w.heap.size = g at hB hgl ⊢
  have c0 : w3.cell? ⟨g, 0, none⟩ = some (.int .i64 0) := hB.cell 0
  have c1 : w3.cell? ⟨g, 1, none⟩ = some (.int .i64 60) := hB.cell 1
  have c2 : w3.cell? ⟨g, 2, none⟩ = some v := hB.cell 2
  go_region_held3 (fun w' => w'.cell? ⟨g, 0, none⟩ = some (.int .i64 0) ∧ w'.cell? ⟨g, 1, none⟩ = some (.int .i64 60) ∧ w'.cell? ⟨g, 2, none⟩ = some v) (first | exact ⟨c0, c1, c2⟩ | exact hS | go_keep) (first | (go_at_call 73; refine (begins1_c v _).mono ?_; rintro e w4 ⟨rfl, hG4⟩; have hG04 := hG.drew.trans hG4; have hB4 := (hB.quiet ((G.refl w3 none).drew)).quiet hG4; have hS : w4.cell? ⟨g, 0, none⟩ = some (.int .i64 0) ∧ w4.cell? ⟨g, 1, none⟩ = some (.int .i64 60) ∧ w4.cell? ⟨g, 2, none⟩ = some v := ⟨hB4.cell 0, hB4.cell 1, hB4.cell 2⟩))
  go_wp2_with fail
  go_ret
  exact ⟨rfl, hG04⟩
set_option maxRecDepth 100000 in
set_option maxHeartbeats 4000000 in
theorem weekendDays1_c (v : Value) (b : Nat) (w : World) (h : Se w v b) : Calls Tryd.prog 74 #[.agg (syC v), .int .i64 0] w fun e w' => e = .returned (.int .i64 1) ∧ G w w' none := by
  have h' := h
  obtain ⟨gs, cap, rfl, _, _, _, _⟩ := h'
  have hB := Bk.new w 84 (syC (.slice (some ⟨gs, 0, none⟩) 1 cap))
  have hG := (G.refl w none).alloc (.cells (syC (.slice (some ⟨gs, 0, none⟩) 1 cap)) 84)
  have hS := h.quiet hG
  go_enter Tryd.func74, Tryd.ntmps74
  go_wp2_with fail
  refine (begins0_c _ _).mono ?_; rintro e w1 ⟨rfl, hG1⟩
  have hB1 := hB.quiet hG1
  have hS1 := hS.quiet hG1
  have hG01 := hG.trans hG1
  clear hB hS hG hG1
  have d0 : w1.cell? ⟨w.heap.size, 0, none⟩ = some (.int .i64 0) := hB1.cell 0
  have d1 : w1.cell? ⟨w.heap.size, 1, none⟩ = some (.int .i64 60) := hB1.cell 1
  have d2 : w1.cell? ⟨w.heap.size, 2, none⟩ = some (.slice (some ⟨gs, 0, none⟩) 1 cap) := hB1.cell 2
  go_wp2_with fail
  refine (begins0_c _ _).mono ?_; rintro e w2 ⟨rfl, hG2⟩
  have hB2 := hB1.quiet hG2
  have hS2 := hS1.quiet hG2
  have hG02 := hG01.trans hG2
  clear hB1 hS1 hG01 hG2 d0 d1 d2
  have d0 : w2.cell? ⟨w.heap.size, 0, none⟩ = some (.int .i64 0) := hB2.cell 0
  have d1 : w2.cell? ⟨w.heap.size, 1, none⟩ = some (.int .i64 60) := hB2.cell 1
  have d2 : w2.cell? ⟨w.heap.size, 2, none⟩ = some (.slice (some ⟨gs, 0, none⟩) 1 cap) := hB2.cell 2
  go_wp2_with fail
  refine wp_loop_rounds 2 ?_
  rw [rounds_succ]
  go_wp2_with fail
  refine (stDays1_c _ b _ hS2).mono ?_; rintro e w3 ⟨rfl, hG3⟩
  have hB3 := hB2.quiet hG3
  have hS3 := hS2.quiet hG3
  have hG03 := hG02.trans hG3
  clear hB2 hS2 hG02 hG3 d0 d1 d2
  have d0 : w3.cell? ⟨w.heap.size, 0, none⟩ = some (.int .i64 0) := hB3.cell 0
  have d1 : w3.cell? ⟨w.heap.size, 1, none⟩ = some (.int .i64 60) := hB3.cell 1
  have d2 : w3.cell? ⟨w.heap.size, 2, none⟩ = some (.slice (some ⟨gs, 0, none⟩) 1 cap) := hB3.cell 2
  have hS3' := hS3
  obtain ⟨g', cap', e', q1, q2, q3, q4⟩ := hS3'
  obtain ⟨rfl, rfl⟩ : gs = g' ∧ cap = cap' := by cases e'; exact ⟨rfl, rfl⟩
  go_wp2_with fail
  refine (ends1_c _ _).mono ?_; rintro e w4 ⟨rfl, hG4⟩
  have hB4 := hB3.quiet hG4
  have hS4 := hS3.quiet hG4
  have hG04 := hG03.trans hG4
  clear hB3 hS3 hG03 hG4 d0 d1 d2 q3 q4
  have d0 : w4.cell? ⟨w.heap.size, 0, none⟩ = some (.int .i64 0) := hB4.cell 0
  have d1 : w4.cell? ⟨w.heap.size, 1, none⟩ = some (.int .i64 60) := hB4.cell 1
  have d2 : w4.cell? ⟨w.heap.size, 2, none⟩ = some (.slice (some ⟨gs, 0, none⟩) 1 cap) := hB4.cell 2
  go_wp2_with fail
  rw [rounds_succ]
  go_wp2_with fail
  refine (stDays1_c _ b _ hS4).mono ?_; rintro e w5 ⟨rfl, hG5⟩
  go_wp2_with fail
  go_ret
  exact ⟨rfl, hG04.trans hG5⟩
set_option maxRecDepth 100000 in
set_option maxHeartbeats 4000000 in
theorem sameSeason1_c (v : Value) (b : Nat) (w : World) (h : Se w v b) : Calls Tryd.prog 75 #[.agg (syC v), .int .i64 0, .int .i64 1] w fun e w' => e = .returned (.bool true) ∧ G w w' none := by
  obtain ⟨g, cap, rfl, q1, q2, q3, q4⟩ := h
  have hp : (w.alloc (.cells (syC (.slice (some ⟨g, 0, none⟩) 1 cap)) 84)).cell? ⟨g, 0, none⟩ = some (.pointer (some ⟨b, 0, none⟩)) := ((gcell ((G.refl w none).alloc _)).1 g _ q3).trans q4
  have hnp : ∀ w : World, (binOp .neq 95 (.pointer (some ⟨b, 0, none⟩)) (.pointer (some ⟨b, 0, none⟩))).run Tryd.prog w = .ok (.bool false) w := fun w => by
    obtain ⟨j, hj⟩ := Option.isSome_iff_exists.1 (show (Tryd.prog.info? 69).isSome = true by kernel_rfl)
    exact run_neq_ptr_same w _ Tryd.underlying95 hj
  go_enter Tryd.func75, Tryd.ntmps75
  go_wp2_with fail
  refine wp_loop_rounds 2 ?_
  rw [rounds_succ]
  go_wp2_with fail
  rw [rounds_succ]
  go_wp2_with fail
  go_ret
  exact ⟨rfl, (G.refl _ _).alloc _⟩
end Go.Proofs.YtkgkbjijiapcpaaDoor

/- The law's own 'priced': the pieces of a rental day. -/
namespace Go.Proofs.YtkgkbjijiapcpaaDoor
open Go.RowKit

/-- One piece, a day for 7. -/
def Pc (w : World) (v : Value) : Prop := ∃ g cap, v = .slice (some ⟨g, 0, none⟩) 1 cap ∧ 1 ≤ cap ∧ cap ≤ maxLen ∧ g < w.heap.size ∧ w.cell? ⟨g, 0, none⟩ = some (.int .i64 2) ∧ w.cell? ⟨g, 1, none⟩ = some (.int .i64 1) ∧ w.cell? ⟨g, 2, none⟩ = some (.int .i64 7)
theorem Pc.quiet {w w' : World} {v : Value} (h : Pc w v) (hG : G w w' none) : Pc w' v := by
  obtain ⟨g, cap, rfl, h1, h2, h3, h4, h5, h6⟩ := h
  exact ⟨g, cap, rfl, h1, h2, Nat.lt_of_lt_of_le h3 hG.size, ((gcell hG).1 g _ h3).trans h4, ((gcell hG).1 g _ h3).trans h5, ((gcell hG).1 g _ h3).trans h6⟩
abbrev pcC : Array Value := #[.int .i64 2, .int .i64 1, .int .i64 7]
theorem pc_row : (Tryd.prog.info? 75).map (fun i => (i.zero, i.size, i.bytes)) = some (some (.agg #[.int .i64 0, .int .i64 0, .int .i64 0]), 3, 24) := by kernel_rfl
theorem wp_append_pc {w : World} {o : Oper} {a : Act} {K : Act → World → Prop} {Q : Exit → Act → World → Prop} (s x : Operand)
    (ho : o.op = .call { callee := .builtin .append, args := #[s, x], argTypes := #[65, 65] }) (hs : a.eval s = .slice none 0 0)
    (g : Nat) (hx : a.eval x = .slice (some ⟨g, 0, none⟩) 1 1) (hb : Bk w g 75 pcC)
    (hK : ∀ v' w', Pc w' v' → (∀ g, v'.ownBlock = some g → w.heap.size ≤ g) → G w w' none → K (a.put o.dst v') w') : o.wp Tryd.prog a w K Q := by
  obtain ⟨i0, hi, hz0, hz1, hz2⟩ := info_parts pc_row
  refine wp_append_own w s x 65 ho w.heap.size 75 i0 _ 3 24 Tryd.underlying65 hi hz0 hz1 hz2 rfl (by decide) (.slice none 0 0) 0 [] hs (World.ownsRow_nil _ _ _ _) ⟨g, 0, none⟩ 1 1 pcC.toList hx rfl hb.at_ (by simp [Value.oneCell']) (by unfold maxLen; omega) (by omega) (Nat.le_refl _) ?_
  intro v w7 hown hgrow _
  refine hK v w7 ?_ (fun g e => (World.ownsRow.lt hown g e).1) hgrow
  obtain ⟨o1, o2⟩ := hown
  rcases o2 with ⟨_, o3⟩ | ⟨g, cap, cur, rfl, k1, k2, k3, k4, k5, k6⟩
  · omega
  · have hat : ∀ (i : Nat) (u : Value), (pcC.toList)[i]? = some u → w7.cell? ⟨g, i, none⟩ = some u := fun i u hu => by
      rw [cell_of_row w7 g i cur _ _ k2]
      have h1 := congrArg (fun l : List Value => l[i]?) k6
      simp only [List.nil_append] at h1
      rw [hu] at h1
      rw [List.getElem?_take] at h1
      split at h1
      · simpa using h1
      · cases h1
    exact ⟨g, cap, rfl, by omega, k4, (Array.getElem?_eq_some_iff.1 k2).1, hat 0 _ rfl, hat 1 _ rfl, hat 2 _ rfl⟩
set_option maxRecDepth 100000 in
theorem addNo_c (k d t : Int) (g : Nat) (w : World) : Calls Tryd.prog 70 #[.int .i64 k, .int .i64 d, .int .i64 (-1), .int .i64 t, .pointer (some ⟨g, 0, none⟩)] w fun e w' => e = .returned (.tuple #[]) ∧ w = w' := by
  go_enter Tryd.func70, Tryd.ntmps70
  go_wp2_with fail
  go_end0
  exact ⟨rfl, rfl⟩
set_option maxRecDepth 100000 in
set_option maxHeartbeats 2000000 in
theorem addDay_c (g : Nat) (w : World) (hB : Bk w g 65 #[.slice none 0 0]) : Calls Tryd.prog 70 #[.int .i64 2, .int .i64 1, .int .i64 7, .int .i64 1, .pointer (some ⟨g, 0, none⟩)] w fun e w' => ∃ v, e = .returned (.tuple #[]) ∧ Pc w' v ∧ Bk w' g 65 #[v] ∧ G w w' (some g) := by
  have c0 := hB.cell 0
  have f0 := hB.free 0
  have hgl := hB.lt
  rw [show (#[Value.slice none 0 0] : Array Value)[0]? = some (.slice none 0 0) from rfl] at c0
  go_enter Tryd.func70, Tryd.ntmps70
  go_wp2_with (at_builtin; refine wpList_plain rfl fun K' hK' => wp_append_pc _ _ rfl rfl w.heap.size rfl (Bk.newAt rfl _ _) fun v w7 hpc hvne hG7 => ?_; refine hK' _ _ ?_; clear hK'; obtain ⟨gs, cap, rfl, q1, q2, q3, q4, q5, q6⟩ := hpc; have hB7 := (hB.alloc (.cells #[.int .i64 2, .int .i64 1, .int .i64 7] 75)).quiet hG7; have c7 : w7.cell? ⟨g, 0, none⟩ = some (.slice none 0 0) := hB7.cell 0; have f7 := hB7.free 0)
  go_end0
  have hne : gs ≠ g := by have := hvne gs rfl; simp at this; omega
  have hcell : ∀ i, (w7.setCell ⟨g, 0, none⟩ (.slice (some ⟨gs, 0, none⟩) 1 cap)).cell? ⟨gs, i, none⟩ = w7.cell? ⟨gs, i, none⟩ := fun i => World.cell?_of_block (w := w7) (Below.heap_setCell _ _ _ _ hne)
  refine ⟨_, rfl, ⟨gs, cap, rfl, q1, q2, by simpa [World.setCell] using q3, (hcell 0).trans q4, (hcell 1).trans q5, (hcell 2).trans q6⟩, hB7.set 0 _, ?_⟩
  exact (((G.refl w (some g)).alloc _).trans (hG7.but (some g))).setCell (.inr rfl) _
/-- What stands while the pieces of the day are put together. -/
def PInv (w0 : World) (b g g6 : Nat) (v pv : Value) (w : World) : Prop := Bk w g 84 (syC v) ∧ Bk w g6 65 #[pv] ∧ Se w v b ∧ Rt w b ∧ G w0 w none
theorem PInv.quiet {w0 w w' : World} {b g g6 : Nat} {v pv : Value} (h : PInv w0 b g g6 v pv w) (hG : G w w' none) : PInv w0 b g g6 v pv w' :=
  ⟨h.1.quiet hG, h.2.1.quiet hG, h.2.2.1.quiet hG, h.2.2.2.1.quiet hG, h.2.2.2.2.trans hG⟩
set_option maxRecDepth 100000 in
set_option maxHeartbeats 8000000 in
theorem pieces1_c (v : Value) (b : Nat) (w : World) (h : Se w v b) (hR : Rt w b) : Calls Tryd.prog 58 #[.agg (syC v), .int .i64 0] w fun e w' => ∃ p, e = .returned p ∧ Pc w' p ∧ G w w' none := by
  have hmf : ∀ (fn : Go.Fn) (first cap : Array Value) (w : World), (Instr.makeFunc fn first cap).run Tryd.prog w = .ok (.func fn first cap) w := fun _ _ _ _ => rfl
  have h' := h
  obtain ⟨gs, cap, rfl, q1, q2, q3, q4⟩ := h'
  have hcs : (w.alloc (.cells (syC (.slice (some ⟨gs, 0, none⟩) 1 cap)) 84)).cell? ⟨gs, 0, none⟩ = some (.pointer (some ⟨b, 0, none⟩)) := ((gcell ((G.refl w none).alloc _)).1 gs _ q3).trans q4
  have hbl := hR.lt
  go_enter Tryd.func58, Tryd.ntmps58
  go_wp2_with fail
  clear hcs q4
  have hI : PInv w b w.heap.size (w.heap.size + 1) (.slice (some ⟨gs, 0, none⟩) 1 cap) (.slice none 0 0) ((w.alloc (.cells (syC (.slice (some ⟨gs, 0, none⟩) 1 cap)) 84)).alloc (.cells #[.slice none 0 0] 65)) := ⟨(Bk.new w _ _).alloc _, Bk.newAt (by simp) _ _, (h.quiet ((G.refl _ _).alloc _)).quiet ((G.refl _ _).alloc _), (hR.alloc _).alloc _, ((G.refl w none).alloc _).alloc _⟩
  have hg6 : w.heap.size ≤ w.heap.size + 1 := by omega
  have hgs6 : gs ≠ w.heap.size + 1 := by omega
  have hb6 : b ≠ w.heap.size + 1 := by omega
  have hgg6 : w.heap.size ≠ w.heap.size + 1 := by omega
  clear h hR q3 hbl
  generalize ((w.alloc (.cells (syC (.slice (some ⟨gs, 0, none⟩) 1 cap)) 84)).alloc (.cells #[.slice none 0 0] 65)) = w2 at hI ⊢
  generalize w.heap.size + 1 = g6 at hI hg6 hgs6 hb6 hgg6 ⊢
  obtain ⟨g, hg⟩ : ∃ g, w.heap.size = g := ⟨_, rfl⟩
  rw [hg] at hI hg6 hgg6 ⊢
  refine (stDays1_c _ b _ hI.2.2.1).mono ?_; rintro e w3 ⟨rfl, hG3⟩
  have hI := hI.quiet hG3
  have c0 : w3.cell? ⟨g, 0, none⟩ = some (.int .i64 0) := hI.1.cell 0
  have c1 : w3.cell? ⟨g, 1, none⟩ = some (.int .i64 60) := hI.1.cell 1
  have c2 : w3.cell? ⟨g, 2, none⟩ = some (.slice (some ⟨gs, 0, none⟩) 1 cap) := hI.1.cell 2
  have c6 : w3.cell? ⟨g6, 0, none⟩ = some (.slice none 0 0) := hI.2.1.cell 0
  have r3 : w3.cell? ⟨b, 3, none⟩ = some (.int .i64 (-1)) := (hI.2.2.2.1.cell 3).trans rt3
  have r4 : w3.cell? ⟨b, 4, none⟩ = some (.int .i64 7) := (hI.2.2.2.1.cell 4).trans rt4
  have r5 : w3.cell? ⟨b, 5, none⟩ = some (.int .i64 (-1)) := (hI.2.2.2.1.cell 5).trans rt5
  have r6 : w3.cell? ⟨b, 6, none⟩ = some (.int .i64 (-1)) := (hI.2.2.2.1.cell 6).trans rt6
  go_wp2_with fail
  go_region_held3 (fun w' => w'.cell? ⟨b, 3, none⟩ = some (.int .i64 (-1)) ∧ w'.cell? ⟨g, 0, none⟩ = some (.int .i64 0) ∧ w'.cell? ⟨g, 1, none⟩ = some (.int .i64 60) ∧ w'.cell? ⟨g, 2, none⟩ = some (.slice (some ⟨gs, 0, none⟩) 1 cap)) (first | exact ⟨r3, c0, c1, c2⟩ | exact hS5 | exact hS4 | go_keep) (first | (go_at_call 72; refine (ends1_c _ _).mono ?_; rintro e w4 ⟨rfl, hG4⟩; have hI4 := (hI.quiet ((G.refl w3 none).drew)).quiet hG4; have hS4 : w4.cell? ⟨b, 3, none⟩ = some (.int .i64 (-1)) ∧ w4.cell? ⟨g, 0, none⟩ = some (.int .i64 0) ∧ w4.cell? ⟨g, 1, none⟩ = some (.int .i64 60) ∧ w4.cell? ⟨g, 2, none⟩ = some (.slice (some ⟨gs, 0, none⟩) 1 cap) := ⟨(hI4.2.2.2.1.cell 3).trans rt3, hI4.1.cell 0, hI4.1.cell 1, hI4.1.cell 2⟩) | (go_at_call 73; refine (begins0_c _ _).mono ?_; rintro e w5 ⟨rfl, hG5⟩; have hI5 := hI4.quiet hG5; have hS5 : w5.cell? ⟨b, 3, none⟩ = some (.int .i64 (-1)) ∧ w5.cell? ⟨g, 0, none⟩ = some (.int .i64 0) ∧ w5.cell? ⟨g, 1, none⟩ = some (.int .i64 60) ∧ w5.cell? ⟨g, 2, none⟩ = some (.slice (some ⟨gs, 0, none⟩) 1 cap) := ⟨(hI5.2.2.2.1.cell 3).trans rt3, hI5.1.cell 0, hI5.1.cell 1, hI5.1.cell 2⟩) | (go_at_call 71; refine (begun1_c 60 60 _ (by omega) (by omega) (by omega) (by omega)).mono ?_; rintro e w' ⟨rfl, rfl⟩) | (go_at_call 70; refine (addNo_c _ _ _ _ _).mono ?_; rintro e w' ⟨rfl, rfl⟩))
  clear c0 c1 c2 c6 r3 r4 r5 r6
  have hI := hI5
  clear hI4 hI5 hS4 hS5
  have c0 : w5.cell? ⟨g, 0, none⟩ = some (.int .i64 0) := hI.1.cell 0
  have c1 : w5.cell? ⟨g, 1, none⟩ = some (.int .i64 60) := hI.1.cell 1
  have c2 : w5.cell? ⟨g, 2, none⟩ = some (.slice (some ⟨gs, 0, none⟩) 1 cap) := hI.1.cell 2
  have c6 : w5.cell? ⟨g6, 0, none⟩ = some (.slice none 0 0) := hI.2.1.cell 0
  have r3 : w5.cell? ⟨b, 3, none⟩ = some (.int .i64 (-1)) := (hI.2.2.2.1.cell 3).trans rt3
  have r4 : w5.cell? ⟨b, 4, none⟩ = some (.int .i64 7) := (hI.2.2.2.1.cell 4).trans rt4
  have r5 : w5.cell? ⟨b, 5, none⟩ = some (.int .i64 (-1)) := (hI.2.2.2.1.cell 5).trans rt5
  have r6 : w5.cell? ⟨b, 6, none⟩ = some (.int .i64 (-1)) := (hI.2.2.2.1.cell 6).trans rt6
  go_wp2_with fail
  refine (addDay_c g6 _ hI.2.1).mono ?_; rintro e w6 ⟨pv, rfl, hpc, hP6, hG6⟩
  obtain ⟨i1, i2, i3, i4, i5⟩ := hI
  have hSe6 : Se w6 (.slice (some ⟨gs, 0, none⟩) 1 cap) b := by
    obtain ⟨g', cap', e', k1, k2, k3, k4⟩ := i3
    obtain ⟨rfl, rfl⟩ : gs = g' ∧ cap = cap' := by cases e'; exact ⟨rfl, rfl⟩
    exact ⟨gs, cap, rfl, k1, k2, Nat.lt_of_lt_of_le k3 hG6.size, ((gcell_s hG6).1 gs _ k3 hgs6).trans k4⟩
  have hI : PInv w b g g6 (.slice (some ⟨gs, 0, none⟩) 1 cap) pv w6 := ⟨i1.grown hG6 (fun e => hgg6 (Option.some.inj e)), hP6, hSe6, i4.grown hG6 (fun e => hb6 (Option.some.inj e)), i5.other hG6 (fun j e => .inl (by have := Option.some.inj e; omega))⟩
  clear i1 i2 i3 i4 i5 hSe6 hP6 hG6
  clear c0 c1 c2 c6 r3 r4 r5 r6
  have c0 : w6.cell? ⟨g, 0, none⟩ = some (.int .i64 0) := hI.1.cell 0
  have c1 : w6.cell? ⟨g, 1, none⟩ = some (.int .i64 60) := hI.1.cell 1
  have c2 : w6.cell? ⟨g, 2, none⟩ = some (.slice (some ⟨gs, 0, none⟩) 1 cap) := hI.1.cell 2
  have c6 : w6.cell? ⟨g6, 0, none⟩ = some (pv) := hI.2.1.cell 0
  have r3 : w6.cell? ⟨b, 3, none⟩ = some (.int .i64 (-1)) := (hI.2.2.2.1.cell 3).trans rt3
  have r4 : w6.cell? ⟨b, 4, none⟩ = some (.int .i64 7) := (hI.2.2.2.1.cell 4).trans rt4
  have r5 : w6.cell? ⟨b, 5, none⟩ = some (.int .i64 (-1)) := (hI.2.2.2.1.cell 5).trans rt5
  have r6 : w6.cell? ⟨b, 6, none⟩ = some (.int .i64 (-1)) := (hI.2.2.2.1.cell 6).trans rt6
  go_wp2_with fail
  refine (weekendDays1_c _ b _ hI.2.2.1).mono ?_; rintro e w7 ⟨rfl, hG7⟩
  have hI := hI.quiet hG7
  have hpc := hpc.quiet hG7
  clear c0 c1 c2 c6 r3 r4 r5 r6
  have c0 : w7.cell? ⟨g, 0, none⟩ = some (.int .i64 0) := hI.1.cell 0
  have c1 : w7.cell? ⟨g, 1, none⟩ = some (.int .i64 60) := hI.1.cell 1
  have c2 : w7.cell? ⟨g, 2, none⟩ = some (.slice (some ⟨gs, 0, none⟩) 1 cap) := hI.1.cell 2
  have c6 : w7.cell? ⟨g6, 0, none⟩ = some (pv) := hI.2.1.cell 0
  have r3 : w7.cell? ⟨b, 3, none⟩ = some (.int .i64 (-1)) := (hI.2.2.2.1.cell 3).trans rt3
  have r4 : w7.cell? ⟨b, 4, none⟩ = some (.int .i64 7) := (hI.2.2.2.1.cell 4).trans rt4
  have r5 : w7.cell? ⟨b, 5, none⟩ = some (.int .i64 (-1)) := (hI.2.2.2.1.cell 5).trans rt5
  have r6 : w7.cell? ⟨b, 6, none⟩ = some (.int .i64 (-1)) := (hI.2.2.2.1.cell 6).trans rt6
  go_wp2_with fail
  refine wp_loop_rounds 2 ?_
  rw [rounds_succ]
  go_wp2_with fail
  refine (addNo_c _ _ _ _ _).mono ?_; rintro e w' ⟨rfl, rfl⟩
  go_wp2_with fail
  rw [rounds_succ]
  go_wp2_with fail
  refine (stDays1_c _ b _ hI.2.2.1).mono ?_; rintro e w8 ⟨rfl, hG8⟩
  have hI := hI.quiet hG8
  have hpc := hpc.quiet hG8
  clear c0 c1 c2 c6 r3 r4 r5 r6
  have c0 : w8.cell? ⟨g, 0, none⟩ = some (.int .i64 0) := hI.1.cell 0
  have c1 : w8.cell? ⟨g, 1, none⟩ = some (.int .i64 60) := hI.1.cell 1
  have c2 : w8.cell? ⟨g, 2, none⟩ = some (.slice (some ⟨gs, 0, none⟩) 1 cap) := hI.1.cell 2
  have c6 : w8.cell? ⟨g6, 0, none⟩ = some (pv) := hI.2.1.cell 0
  have r3 : w8.cell? ⟨b, 3, none⟩ = some (.int .i64 (-1)) := (hI.2.2.2.1.cell 3).trans rt3
  have r4 : w8.cell? ⟨b, 4, none⟩ = some (.int .i64 7) := (hI.2.2.2.1.cell 4).trans rt4
  have r5 : w8.cell? ⟨b, 5, none⟩ = some (.int .i64 (-1)) := (hI.2.2.2.1.cell 5).trans rt5
  have r6 : w8.cell? ⟨b, 6, none⟩ = some (.int .i64 (-1)) := (hI.2.2.2.1.cell 6).trans rt6
  go_wp2_with fail
  refine (sameSeason1_c _ b _ hI.2.2.1).mono ?_; rintro e w9 ⟨rfl, hG9⟩
  have hI := hI.quiet hG9
  have hpc := hpc.quiet hG9
  clear c0 c1 c2 c6 r3 r4 r5 r6
  have c0 : w9.cell? ⟨g, 0, none⟩ = some (.int .i64 0) := hI.1.cell 0
  have c1 : w9.cell? ⟨g, 1, none⟩ = some (.int .i64 60) := hI.1.cell 1
  have c2 : w9.cell? ⟨g, 2, none⟩ = some (.slice (some ⟨gs, 0, none⟩) 1 cap) := hI.1.cell 2
  have c6 : w9.cell? ⟨g6, 0, none⟩ = some (pv) := hI.2.1.cell 0
  have r3 : w9.cell? ⟨b, 3, none⟩ = some (.int .i64 (-1)) := (hI.2.2.2.1.cell 3).trans rt3
  have r4 : w9.cell? ⟨b, 4, none⟩ = some (.int .i64 7) := (hI.2.2.2.1.cell 4).trans rt4
  have r5 : w9.cell? ⟨b, 5, none⟩ = some (.int .i64 (-1)) := (hI.2.2.2.1.cell 5).trans rt5
  have r6 : w9.cell? ⟨b, 6, none⟩ = some (.int .i64 (-1)) := (hI.2.2.2.1.cell 6).trans rt6
  go_wp2_with fail
  refine (addNo_c _ _ _ _ _).mono ?_; rintro e w' ⟨rfl, rfl⟩
  go_wp2_with fail
  go_ret
  exact ⟨pv, rfl, hpc, hI.2.2.2.2⟩
end Go.Proofs.YtkgkbjijiapcpaaDoor

/- The law's own 'priced': the plans of a stay of one rental day. -/
namespace Go.Proofs.YtkgkbjijiapcpaaDoor
open Go.RowKit

abbrev plA : Array Value := #[.bool true, .int .i64 7, .int .i64 1, .int .i64 2, .int .i64 1, .int .i64 7]
abbrev plZ : Array Value := #[.bool false, .int .i64 0, .int .i64 0, .int .i64 0, .int .i64 0, .int .i64 0]
abbrev plE : Array Value := #[.bool true, .int .i64 0, .int .i64 0, .int .i64 0, .int .i64 0, .int .i64 0]
set_option maxRecDepth 100000 in
set_option maxHeartbeats 1000000 in
theorem better1_c (w : World) : Calls Tryd.prog 59 #[.agg plA, .agg plZ] w fun e w' => e = .returned (.bool true) ∧ G w w' none := by
  go_enter Tryd.func59, Tryd.ntmps59
  go_wp2_with fail
  go_ret
  exact ⟨rfl, ((G.refl _ _).alloc _).alloc _⟩
abbrev pl0 : Array Value := #[.bool false, .int .i64 0, .int .i64 0, .int .i64 0, .int .i64 0, .int .i64 0, .bool false, .int .i64 0, .int .i64 0, .int .i64 0, .int .i64 0, .int .i64 0]
abbrev pl1 : Array Value := #[.bool false, .int .i64 0, .int .i64 0, .int .i64 0, .int .i64 0, .int .i64 0, .bool true, .int .i64 0, .int .i64 0, .int .i64 0, .int .i64 0, .int .i64 0]
/-- The two plans, as they are at the end. -/
abbrev pl2 : Array Value := #[.bool true, .int .i64 7, .int .i64 1, .int .i64 2, .int .i64 1, .int .i64 7, .bool true, .int .i64 0, .int .i64 0, .int .i64 0, .int .i64 0, .int .i64 0]
/-- What stands while the plans are made. -/
def QInv (w0 : World) (b g0 gp : Nat) (v : Value) (pl : Array Value) (w : World) : Prop := Bk w g0 84 (syC v) ∧ Bk w gp 89 pl ∧ Se w v b ∧ Rt w b ∧ G w0 w none
theorem QInv.quiet {w0 w w' : World} {b g0 gp : Nat} {v : Value} {pl : Array Value} (h : QInv w0 b g0 gp v pl w) (hG : G w w' none) : QInv w0 b g0 gp v pl w' :=
  ⟨h.1.quiet hG, h.2.1.quiet hG, h.2.2.1.quiet hG, h.2.2.2.1.quiet hG, h.2.2.2.2.trans hG⟩
theorem QInv.set {w0 w : World} {b g0 gp : Nat} {v : Value} {pl : Array Value} (h : QInv w0 b g0 gp v pl w) (h0 : g0 ≠ gp) (hv : ∀ g, v.ownBlock = some g → g ≠ gp) (hb : b ≠ gp) (hw : w0.heap.size ≤ gp) (i : Nat) (x : Value) : QInv w0 b g0 gp v (pl.setIfInBounds i x) (w.setCell ⟨gp, i, none⟩ x) := by
  obtain ⟨h1, h2, h3, h4, h5⟩ := h
  refine ⟨h1.far (p := ⟨gp, i, none⟩) h0 x, h2.set i x, ?_, h4.far (p := ⟨gp, i, none⟩) hb x, h5.setCell (p := ⟨gp, i, none⟩) (.inl hw) x⟩
  obtain ⟨g, cap, rfl, q1, q2, q3, q4⟩ := h3
  exact ⟨g, cap, rfl, q1, q2, by simpa [World.setCell] using q3, (World.cell?_of_block (w := w) (Below.heap_setCell _ _ _ _ (hv g rfl))).trans q4⟩
theorem Bk.sub {w : World} {g : Nat} {T : TypeId} {cs : Array Value} (h : Bk w g T cs) (o : Nat) (sub : Array Value) (hs : ∀ (j : Nat) (u : Value), sub[j]? = some u → cs[o + j]? = some u) : ∀ j u, sub.toList[j]? = some u → w.cell? ((⟨g, o, none⟩ : Addr).add j) = some u := fun j u hu => by
  rw [add_at, h.cell]
  exact hs j u (by simpa using hu)
theorem pl_info : (Tryd.prog.info? 89).map (·.size) = some plA.size := (by kernel_rfl : (Tryd.prog.info? 89).map (·.size) = some 6)
set_option maxRecDepth 100000 in
set_option maxHeartbeats 8000000 in
theorem plans1_c (v : Value) (b : Nat) (w : World) (h : Se w v b) (hR : Rt w b) : Calls Tryd.prog 51 #[.agg (syC v)] w fun e w' => ∃ g, e = .returned (.slice (some ⟨g, 0, none⟩) 2 2) ∧ Bk w' g 89 pl2 ∧ G w w' none := by
  have hms : ∀ w : World, (Instr.makeSlice 86 (.int .i64 2) (.int .i64 2)).run Tryd.prog w = .ok (.slice (some ⟨w.heap.size, 0, none⟩) 2 2) (w.alloc (.cells pl0 89)) := fun _ => by kernel_rfl
  have hB := Bk.new w 84 (syC v)
  have hG := (G.refl w none).alloc (.cells (syC v) 84)
  have hS := h.quiet hG
  have hR' := hR.quiet hG
  have hvs : ∀ g, v.ownBlock = some g → g < w.heap.size := fun g e => by
    obtain ⟨g', cap, rfl, _, _, q3, _⟩ := h
    obtain rfl := Option.some.inj e
    exact q3
  have hbl := hR.lt
  go_enter Tryd.func51, Tryd.ntmps51
  go_wp2_with fail
  refine (stDays1_c _ b _ hS).mono ?_; rintro e w1 ⟨rfl, hG1⟩
  have hB1 := hB.quiet hG1
  have hS1 := hS.quiet hG1
  have hR1 := hR'.quiet hG1
  have hG01 := hG.trans hG1
  clear hB hS hR' hG hG1 h hR
  have hz1 := hB1.lt
  have hI : QInv w b w.heap.size w1.heap.size v pl0 (w1.alloc (.cells pl0 89)) := ⟨hB1.alloc _, Bk.new w1 _ _, hS1.quiet ((G.refl _ _).alloc _), hR1.alloc _, hG01.alloc _⟩
  have n1 : w.heap.size ≠ w1.heap.size := by omega
  have n2 : ∀ g, v.ownBlock = some g → g ≠ w1.heap.size := fun g e => by have := hvs g e; omega
  have n3 : b ≠ w1.heap.size := by omega
  have n4 : w.heap.size ≤ w1.heap.size := by omega
  clear hB1 hS1 hR1 hG01 hvs hbl hz1
  have hL := hI.1
  obtain ⟨g0, hg0⟩ : ∃ g, w.heap.size = g := ⟨_, rfl⟩
  rw [hg0] at hI n1 hL ⊢
  go_wp2_with (refine wpList_load_row rfl 84 _ rfl g0 rfl 84 (syC v) (0, 0) _ hL Tryd.underlying84 rfl (sy_info v) ?_)
  generalize w1.alloc (.cells pl0 89) = w2 at hI hL ⊢
  generalize w1.heap.size = gp at hI n1 n2 n3 n4 ⊢
  refine (stDays1_c _ b _ hI.2.2.1).mono ?_; rintro e w3 ⟨rfl, hG3⟩
  have hI := hI.quiet hG3
  clear hL
  have hL := hI.1.far (p := ⟨gp, 6, none⟩) n1 (.bool true)
  have d6 : w3.cell? ⟨gp, 6, none⟩ = some (.bool false) := hI.2.1.cell 6
  have f6 := hI.2.1.free 6
  have hI6 : QInv w b g0 gp v pl1 (w3.setCell ⟨gp, 6, none⟩ (.bool true)) := hI.set n1 n2 n3 n4 6 (.bool true)
  clear hI
  go_wp2_with (refine wpList_load_row rfl 84 _ rfl g0 rfl 84 (syC v) (0, 0) _ hL Tryd.underlying84 rfl (sy_info v) ?_)
  generalize w3.setCell ⟨gp, 6, none⟩ (.bool true) = w4 at hI6 hL ⊢
  refine (stDays1_c _ b _ hI6.2.2.1).mono ?_; rintro e w5 ⟨rfl, hG5⟩
  have hI := hI6.quiet hG5
  clear hI6 hL d6 f6
  have hL := hI.1
  go_wp2_with fail
  refine wp_loop_rounds 2 ?_
  rw [rounds_succ]
  go_wp2_with (refine wpList_load_row rfl 84 _ rfl g0 rfl 84 (syC v) (0, 0) _ hL Tryd.underlying84 rfl (sy_info v) ?_)
  refine (pieces1_c _ b _ hI.2.2.1 hI.2.2.2.1).mono ?_; rintro e w6 ⟨p, rfl, hp, hG6⟩
  have hI := hI.quiet hG6
  clear hL
  have hp' := hp
  obtain ⟨gc, cap, rfl, q1, q2, q3, q4, q5, q6⟩ := hp'
  go_wp2_with fail
  refine wp_loop_rounds 2 ?_
  rw [rounds_succ]
  have hI' := hI.quiet ((G.refl w6 none).alloc (.cells #[.int .i64 2, .int .i64 1, .int .i64 7] 75))
  have HA := Lib.hid (Bk.sub hI'.2.1 6 plE (fun j u hu => by
    match j, hu with
    | 0, hu => exact hu
    | 1, hu => exact hu
    | 2, hu => exact hu
    | 3, hu => exact hu
    | 4, hu => exact hu
    | 5, hu => exact hu
    | j + 6, hu => simp at hu))
  go_wp2_with (refine wpList_load_at rfl 89 _ rfl ⟨gp, 6, none⟩ rfl plE _ HA.out Tryd.underlying89 rfl pl_info ?_)
  have hP7 : Bk ((w6.alloc (.cells #[.int .i64 2, .int .i64 1, .int .i64 7] 75)).alloc (.cells #[.bool true, .int .i64 7, .int .i64 1, .int .i64 2, .int .i64 1, .int .i64 7] 89)) (w6.heap.size + 1) 89 plA := Bk.newAt (by simp) _ _
  have hI7 := hI'.quiet ((G.refl _ none).alloc (.cells #[.bool true, .int .i64 7, .int .i64 1, .int .i64 2, .int .i64 1, .int .i64 7] 89))
  have hgp : gp < w6.heap.size := hI.2.1.lt
  have n7 : w6.heap.size + 1 ≠ gp := by omega
  clear hI' HA hI hp q3 q4 q5 q6
  generalize ((w6.alloc (.cells #[.int .i64 2, .int .i64 1, .int .i64 7] 75)).alloc (.cells #[.bool true, .int .i64 7, .int .i64 1, .int .i64 2, .int .i64 1, .int .i64 7] 89)) = w7 at hP7 hI7 ⊢
  generalize w6.heap.size + 1 = g7 at hP7 n7 ⊢
  have hS7 : w7.cell? ⟨g7, 0, none⟩ = some (.bool true) ∧ w7.cell? ⟨g7, 1, none⟩ = some (.int .i64 7) ∧ w7.cell? ⟨g7, 2, none⟩ = some (.int .i64 1) ∧ w7.cell? ⟨g7, 3, none⟩ = some (.int .i64 2) ∧ w7.cell? ⟨g7, 4, none⟩ = some (.int .i64 1) ∧ w7.cell? ⟨g7, 5, none⟩ = some (.int .i64 7) ∧ w7.cell? ⟨gp, 0, none⟩ = some (.bool false) ∧ w7.cell? ⟨gp, 1, none⟩ = some (.int .i64 0) ∧ w7.cell? ⟨gp, 2, none⟩ = some (.int .i64 0) ∧ w7.cell? ⟨gp, 3, none⟩ = some (.int .i64 0) ∧ w7.cell? ⟨gp, 4, none⟩ = some (.int .i64 0) ∧ w7.cell? ⟨gp, 5, none⟩ = some (.int .i64 0) := ⟨hP7.cell 0, hP7.cell 1, hP7.cell 2, hP7.cell 3, hP7.cell 4, hP7.cell 5, hI7.2.1.cell 0, hI7.2.1.cell 1, hI7.2.1.cell 2, hI7.2.1.cell 3, hI7.2.1.cell 4, hI7.2.1.cell 5⟩
  go_region_held3 (fun w' => w'.cell? ⟨g7, 0, none⟩ = some (.bool true) ∧ w'.cell? ⟨g7, 1, none⟩ = some (.int .i64 7) ∧ w'.cell? ⟨g7, 2, none⟩ = some (.int .i64 1) ∧ w'.cell? ⟨g7, 3, none⟩ = some (.int .i64 2) ∧ w'.cell? ⟨g7, 4, none⟩ = some (.int .i64 1) ∧ w'.cell? ⟨g7, 5, none⟩ = some (.int .i64 7) ∧ w'.cell? ⟨gp, 0, none⟩ = some (.bool false) ∧ w'.cell? ⟨gp, 1, none⟩ = some (.int .i64 0) ∧ w'.cell? ⟨gp, 2, none⟩ = some (.int .i64 0) ∧ w'.cell? ⟨gp, 3, none⟩ = some (.int .i64 0) ∧ w'.cell? ⟨gp, 4, none⟩ = some (.int .i64 0) ∧ w'.cell? ⟨gp, 5, none⟩ = some (.int .i64 0)) (first | exact hS7 | exact hS8 | go_keep) (first | (go_at_call 59; refine (better1_c _).mono ?_; rintro e w8 ⟨rfl, hG8⟩; have hP8 := (hP7.quiet ((G.refl w7 none).drew)).quiet hG8; have hI8 := (hI7.quiet ((G.refl w7 none).drew)).quiet hG8; have hS8 : w8.cell? ⟨g7, 0, none⟩ = some (.bool true) ∧ w8.cell? ⟨g7, 1, none⟩ = some (.int .i64 7) ∧ w8.cell? ⟨g7, 2, none⟩ = some (.int .i64 1) ∧ w8.cell? ⟨g7, 3, none⟩ = some (.int .i64 2) ∧ w8.cell? ⟨g7, 4, none⟩ = some (.int .i64 1) ∧ w8.cell? ⟨g7, 5, none⟩ = some (.int .i64 7) ∧ w8.cell? ⟨gp, 0, none⟩ = some (.bool false) ∧ w8.cell? ⟨gp, 1, none⟩ = some (.int .i64 0) ∧ w8.cell? ⟨gp, 2, none⟩ = some (.int .i64 0) ∧ w8.cell? ⟨gp, 3, none⟩ = some (.int .i64 0) ∧ w8.cell? ⟨gp, 4, none⟩ = some (.int .i64 0) ∧ w8.cell? ⟨gp, 5, none⟩ = some (.int .i64 0) := ⟨hP8.cell 0, hP8.cell 1, hP8.cell 2, hP8.cell 3, hP8.cell 4, hP8.cell 5, hI8.2.1.cell 0, hI8.2.1.cell 1, hI8.2.1.cell 2, hI8.2.1.cell 3, hI8.2.1.cell 4, hI8.2.1.cell 5⟩))
  have e0 : w8.cell? ⟨gp, 0, none⟩ = some (.bool false) := hI8.2.1.cell 0
  have f0 := hI8.2.1.free 0
  have e1 : w8.cell? ⟨gp, 1, none⟩ = some (.int .i64 0) := hI8.2.1.cell 1
  have f1 := hI8.2.1.free 1
  have e2 : w8.cell? ⟨gp, 2, none⟩ = some (.int .i64 0) := hI8.2.1.cell 2
  have f2 := hI8.2.1.free 2
  have e3 : w8.cell? ⟨gp, 3, none⟩ = some (.int .i64 0) := hI8.2.1.cell 3
  have f3 := hI8.2.1.free 3
  have e4 : w8.cell? ⟨gp, 4, none⟩ = some (.int .i64 0) := hI8.2.1.cell 4
  have f4 := hI8.2.1.free 4
  have e5 : w8.cell? ⟨gp, 5, none⟩ = some (.int .i64 0) := hI8.2.1.cell 5
  have f5 := hI8.2.1.free 5
  have hJ0 := hI8.set n1 n2 n3 n4 0 (.bool true)
  have hJ1 := hJ0.set n1 n2 n3 n4 1 (.int .i64 7)
  have hJ2 := hJ1.set n1 n2 n3 n4 2 (.int .i64 1)
  have hJ3 := hJ2.set n1 n2 n3 n4 3 (.int .i64 2)
  have hJ4 := hJ3.set n1 n2 n3 n4 4 (.int .i64 1)
  have hJ5 := hJ4.set n1 n2 n3 n4 5 (.int .i64 7)
  have hset : w8.setCells gp 0 plA.toList = ((((((w8.setCell ⟨gp, 0, none⟩ (.bool true)).setCell ⟨gp, 1, none⟩ (.int .i64 7)).setCell ⟨gp, 2, none⟩ (.int .i64 1)).setCell ⟨gp, 3, none⟩ (.int .i64 2)).setCell ⟨gp, 4, none⟩ (.int .i64 1)).setCell ⟨gp, 5, none⟩ (.int .i64 7)) := rfl
  have hJ : QInv w b g0 gp v pl2 (w8.setCells gp 0 plA.toList) := by rw [hset]; exact hJ5
  have hth : w8.there gp 0 6 := fun j hj => by
    match j, hj with
    | 0, _ => exact ⟨by rw [e0]; rfl, f0⟩
    | 1, _ => exact ⟨by rw [e1]; rfl, f1⟩
    | 2, _ => exact ⟨by rw [e2]; rfl, f2⟩
    | 3, _ => exact ⟨by rw [e3]; rfl, f3⟩
    | 4, _ => exact ⟨by rw [e4]; rfl, f4⟩
    | 5, _ => exact ⟨by rw [e5]; rfl, f5⟩
  have HT := Lib.hid hth
  have HJ := Lib.hid hJ
  clear hJ hset hth hJ0 hJ1 hJ2 hJ3 hJ4 hJ5 hS7 hS8 hI7 hI8 n1 n2 n3 n4 hms hP7 e0 e1 e2 e3 e4 e5 f0 f1 f2 f3 f4 f5
  go_wp2_with (first | (refine wpList_load_row rfl 89 _ rfl g7 rfl 89 plA (0, 0) _ hP8 Tryd.underlying89 rfl pl_info ?_) | (refine wpList_store_mid rfl 89 _ _ rfl gp 0 plA rfl rfl HT.out pl_info (by simp [Value.oneCell']) ?_; generalize w8.setCells gp 0 plA.toList = w9 at HJ ⊢))
  rw [rounds_succ]
  go_wp2_with fail
  rw [rounds_succ]
  go_wp2_with fail
  go_ret
  exact ⟨gp, rfl, HJ.out.2.1, HJ.out.2.2.2.2⟩
end Go.Proofs.YtkgkbjijiapcpaaDoor

/- The law's own 'priced': Divide at one rate and one hour. -/
namespace Go.Proofs.YtkgkbjijiapcpaaDoor
open Go.RowKit

set_option maxRecDepth 100000 in
set_option maxHeartbeats 2000000 in
theorem pcEqual_c (v u : Value) (w : World) (hv : Pc w v) (hu : Pc w u) : Calls Tryd.prog 40 #[v, u] w fun e w' => e = .returned (.bool true) ∧ G w w' none := by
  have hnq : ∀ w : World, (binOp .neq 75 (.agg pcC) (.agg pcC)).run Tryd.prog w = .ok (.bool false) w := fun _ => by kernel_rfl
  obtain ⟨g, cap, rfl, q1, q2, q3, q4, q5, q6⟩ := hv
  obtain ⟨k, cap', rfl, r1, r2, r3, r4, r5, r6⟩ := hu
  go_enter Tryd.func40, Tryd.ntmps40
  go_wp2_with fail
  refine wp_loop_rounds 2 ?_
  rw [rounds_succ]
  go_wp2_with fail
  go_quiet (fail)
  have hG := (G.refl w none).drewN nq
  go_wp2_with fail
  rw [rounds_succ]
  go_wp2_with fail
  go_ret
  exact ⟨rfl, hG⟩
set_option maxRecDepth 100000 in
set_option maxHeartbeats 8000000 in
theorem divide1_c (b : Nat) (w : World) (hR : Rt w b) : Calls Tryd.prog 39 #[.slice (some ⟨b, 0, none⟩) 1 1, .string ⟨#[99]⟩, .agg #[.int .i64 0, .int .i64 60]] w fun e w' => ∃ p, e = .returned (.tuple #[p, .int .i64 0]) ∧ Pc w' p ∧ G w w' none := by
  have hT := Bk.new w 72 #[.int .i64 0, .int .i64 60]
  have hG := (G.refl w none).alloc (.cells #[.int .i64 0, .int .i64 60] 72)
  have hR0 := hR.quiet hG
  go_enter Tryd.func39, Tryd.ntmps39
  go_wp2_with fail
  refine (checkStay1_c _ b hR0).mono ?_; rintro e w1 ⟨rfl, hG1⟩
  have hT := hT.quiet hG1
  have hR1 := hR0.quiet hG1
  have hG := hG.trans hG1
  clear hG1 hR hR0
  have c0 : w1.cell? ⟨w.heap.size, 0, none⟩ = some (.int .i64 0) := hT.cell 0
  have c1 : w1.cell? ⟨w.heap.size, 1, none⟩ = some (.int .i64 60) := hT.cell 1
  go_wp2_with fail
  refine (stayOf1_c _ b hR1).mono ?_; rintro e w2 ⟨v, rfl, hS2, hG2⟩
  have hR2 := hR1.quiet hG2
  have hG := hG.trans hG2
  clear hG2 hR1 hT c0 c1
  have hS2' := hS2
  obtain ⟨gs, cap, rfl, _, _, _, _⟩ := hS2'
  have hB := Bk.new w2 84 #[.int .i64 0, .int .i64 60, .slice (some ⟨gs, 0, none⟩) 1 cap]
  have hA := (G.refl w2 none).alloc (.cells #[.int .i64 0, .int .i64 60, .slice (some ⟨gs, 0, none⟩) 1 cap] 84)
  have hS3 := hS2.quiet hA
  have hR3 := hR2.quiet hA
  have hG := hG.trans hA
  clear hS2 hR2
  go_wp2_with fail
  refine (plans1_c _ b _ hS3 hR3).mono ?_; rintro e w4 ⟨gp, rfl, hP, hG4⟩
  have hB := hB.quiet hG4
  have hS4 := hS3.quiet hG4
  have hG := hG.trans hG4
  clear hG4 hS3 hR3 hA
  have p0 : w4.cell? ⟨gp, 0, none⟩ = some (.bool true) := hP.cell 0
  have d0 : w4.cell? ⟨w2.heap.size, 0, none⟩ = some (.int .i64 0) := hB.cell 0
  have d1 : w4.cell? ⟨w2.heap.size, 1, none⟩ = some (.int .i64 60) := hB.cell 1
  have d2 : w4.cell? ⟨w2.heap.size, 2, none⟩ = some (.slice (some ⟨gs, 0, none⟩) 1 cap) := hB.cell 2
  go_wp2_with fail
  refine wp_loop_rounds 2 ?_
  rw [rounds_succ]
  go_wp2_with fail
  refine (stDays1_c _ b _ hS4).mono ?_; rintro e w5 ⟨rfl, hG5⟩
  have hB := hB.quiet hG5
  have hS5 := hS4.quiet hG5
  have hP := hP.quiet hG5
  have hG := hG.trans hG5
  clear hG5 hS4 p0 d0 d1 d2
  have p3 : w5.cell? ⟨gp, 3, none⟩ = some (.int .i64 2) := hP.cell 3
  have p4 : w5.cell? ⟨gp, 4, none⟩ = some (.int .i64 1) := hP.cell 4
  have p5 : w5.cell? ⟨gp, 5, none⟩ = some (.int .i64 7) := hP.cell 5
  have hPl := hP.lt
  go_wp2_with (at_builtin; refine wpList_plain rfl fun K' hK' => wp_append_pc _ _ rfl rfl w5.heap.size rfl (Bk.newAt rfl _ _) fun p w7 hpc hvne hG7 => ?_; refine hK' _ _ ?_; clear hK'; have hP7 := (hP.alloc _).quiet hG7; have hB7 := (hB.alloc _).quiet hG7; have hS7 := (hS5.quiet ((G.refl _ none).alloc _)).quiet hG7; have hG07 := (hG.alloc _).trans hG7; have p4' : w7.cell? ⟨gp, 4, none⟩ = some (.int .i64 1) := hP7.cell 4)
  rw [rounds_succ]
  have d0 : w7.cell? ⟨w2.heap.size, 0, none⟩ = some (.int .i64 0) := hB7.cell 0
  have d1 : w7.cell? ⟨w2.heap.size, 1, none⟩ = some (.int .i64 60) := hB7.cell 1
  have d2 : w7.cell? ⟨w2.heap.size, 2, none⟩ = some (.slice (some ⟨gs, 0, none⟩) 1 cap) := hB7.cell 2
  go_wp2_with fail
  refine (stDays1_c _ b _ hS7).mono ?_; rintro e w8 ⟨rfl, hG8⟩
  go_wp2_with fail
  go_ret2
  exact ⟨p, rfl, hpc.quiet hG8, hG07.trans hG8⟩
set_option maxRecDepth 100000 in
set_option maxHeartbeats 4000000 in
theorem priced_c (w : World) : Calls Tryd.prog 17 #[] w fun e w' => e = .returned (.bool true) ∧ G w w' none := by
  have hR := Bk.new w 69 rtC
  go_enter Tryd.func17, Tryd.ntmps17
  go_wp2_with fail
  refine (divide1_c w.heap.size _ hR).mono ?_; rintro e w1 ⟨p, rfl, hp, hG1⟩
  have hG := ((G.refl w none).alloc (.cells rtC 69)).trans hG1
  clear hG1 hR
  have hA := (G.refl w1 none).alloc (.cells #[.int .i64 2, .int .i64 1, .int .i64 7] 75)
  have hp1 := hp.quiet hA
  have hn := Bk.new w1 75 #[.int .i64 2, .int .i64 1, .int .i64 7]
  have hp2 : Pc (w1.alloc (.cells #[.int .i64 2, .int .i64 1, .int .i64 7] 75)) (.slice (some ⟨w1.heap.size, 0, none⟩) 1 1) := ⟨_, 1, rfl, by omega, by decide, hn.lt, hn.cell 0, hn.cell 1, hn.cell 2⟩
  go_wp2_with fail
  refine (pcEqual_c _ _ _ hp1 hp2).mono ?_; rintro e w2 ⟨rfl, hG2⟩
  go_wp2_with fail
  go_ret
  exact ⟨rfl, (hG.trans hA).trans hG2⟩
end Go.Proofs.YtkgkbjijiapcpaaDoor

/- The law TaxesAdd. Written by gentxw.py. -/
namespace Go.Proofs.YtkgkbjijiapcpaaDoor
open Go.RowKit

theorem whenT_c (b : Bool) (n : Int) (w : World) : Calls Tryd.prog 16 #[.bool b, .int .i64 n] w fun e w' => e = .returned (.int .i64 (if b = true then n else 0)) ∧ w = w' := by
  cases b
  all_goals
    go_enter Tryd.func16, Tryd.ntmps16
    go_wp2_with fail
    go_ret
    exact ⟨rfl, rfl⟩
theorem tls_errs (T : List Tx) (l : List Li) : errsOf [txE T, liE l, if l.any isTx = true then 4 else 0] = tlsE T l := by
  unfold tlsE
  simp only [errsOf]
  by_cases h1 : txE T = 0
  · by_cases h2 : liE l = 0
    · cases h3 : l.any isTx <;> simp [h1, h2]
    · simp [h1, h2]
  · simp [h1]
theorem tls_zero {T : List Tx} {l : List Li} (h : tlsE T l = 0) : txE T = 0 ∧ liE l = 0 := by
  unfold tlsE at h
  split at h
  · rename_i h1
    split at h
    · rename_i h2; exact ⟨h1, h2⟩
    · rename_i h2; exact absurd h h2
  · rename_i h1; exact absurd h h1
set_option maxRecDepth 100000 in
set_option maxHeartbeats 8000000 in
theorem taxesAdd_c (a0 : Option Addr) (n c0 : Nat) (zs : List Int) (W : World) (hr : Rd W 1 (.slice a0 n c0) n (zs.map (Value.int .i64))) (hz : ∀ z ∈ zs, -9223372036854775808 ≤ z ∧ z ≤ 9223372036854775807) :
    Calls Tryd.prog 3 #[.slice a0 n c0] W fun e W' => e = .returned (.bool true) ∧ G W W' none := by
  have hSB : SB (W.alloc (.cells #[.slice a0 n c0, .int .i64 0] 25)) W.heap.size 0 := by
    have hB := Bk.new W 25 #[.slice a0 n c0, .int .i64 0]
    refine ⟨0, a0, n, c0, zs, Nat.le_refl _, hr.quiet ((G.refl _ _).alloc _), fun b e => ?_, hz, hB.cell 0, hB.cell 1, hB.free 1, hB.lt⟩
    obtain ⟨a', c', e', r1, r2, r3, r4, r5⟩ := hr
    cases e'
    exact (r5 b e).2.1
  have hG : G W (W.alloc (.cells #[.slice a0 n c0, .int .i64 0] 25)) (some W.heap.size) := (G.refl _ _).alloc _
  clear hr hz
  go_enter Tryd.func3, Tryd.ntmps3
  go_upto_region 2 with fail
  generalize W.alloc (.cells #[.slice a0 n c0, .int .i64 0] 25) = w0 at hSB hG ⊢
  have hs0 : W.heap.size < w0.heap.size := hSB.lt
  go_wp2_with fail
  refine (taxesG_c _ _ _ hSB (by omega)).mono ?_; rintro e w1 ⟨v1, T, rfl, hT, hnw, hok, hn3, hSB1, hh⟩
  replace hG := hG.trans hh
  have hs1 : W.heap.size < w1.heap.size := hSB1.lt
  clear hSB hh
  go_wp2_with fail
  refine (billLines_c _ _ _ hSB1 (by omega)).mono ?_; rintro e w2 ⟨v2, l, rfl, ho2, hlk, hn6, hSB2, hh⟩
  replace hG := hG.trans hh
  replace hT := TxR.grown hT hnw hs0 hh
  have hL : RdR w2 3 liC v2 l := Rd.of_owns ho2
  replace hG := G.own hG (Nat.le_refl _)
  clear hSB1 hSB2 hh ho2 hnw hs0 hs1
  have HOK := Lib.hid hok
  have HLK := Lib.hid hlk
  have H3 := Lib.hid hn3
  have H6 := Lib.hid hn6
  clear hok hlk hn3 hn6
  obtain ⟨a1, k1, rfl, -, -⟩ := RdR.form hT.1
  obtain ⟨a2, k2, rfl, -, -⟩ := RdR.form hL
  have CTL := Lib.hid (fun w' (p : TxR w' (.slice a1 T.length k1) T) (q : RdR w' 3 liC (.slice a2 l.length k2) l) => taxLinesP_c _ _ T l w' p q HOK.out HLK.out H6.out H3.out)
  have CTO := Lib.hid (fun w' (p : RdR w' 3 liC (.slice a2 l.length k2) l) => total_c _ l w' p HLK.out (by have := H6.out; omega))
  have CTF := Lib.hid (fun w' (p : TxR w' (.slice a1 T.length k1) T) => taxesFault_c _ T w' p HOK.out (by have := H3.out; omega))
  have CCT := Lib.hid (fun w' (p : TxR w' (.slice a1 T.length k1) T) => checkTaxes_c _ T w' p HOK.out (by have := H3.out; omega))
  have CLF := Lib.hid (fun w' (p : RdR w' 3 liC (.slice a2 l.length k2) l) => linesFault_c _ l w' p HLK.out (by have := H6.out; omega))
  have CCL := Lib.hid (fun w' (p : RdR w' 3 liC (.slice a2 l.length k2) l) => checkLines_c _ l w' p HLK.out (by have := H6.out; omega))
  have CSU := Lib.hid (fun (e : liE l = 0) w' (p : RdR w' 3 liC (.slice a2 l.length k2) l) => sumOfR_c _ l w' p (liE_ok e).1 (by have := H6.out; omega))
  have CHA := Lib.hid (fun w' (p : RdR w' 3 liC (.slice a2 l.length k2) l) => ltHas_c 14 (fun _ _ => rfl) _ l w' (fun x w'' _ => isTaxL_c x w'') p (by have := H6.out; omega))
  have CTX := Lib.hid (fun (e : tlsE T l = 0) w' (p : TxR w' (.slice a1 T.length k1) T) (q : RdR w' 3 liC (.slice a2 l.length k2) l) => taxesOf_c _ _ T l w' p q (liE_ok (tls_zero e).2).1 H6.out H3.out (TxGood.of (tls_zero e).1 HOK.out) (fun x hx => (onErr_ok (txE_ok (tls_zero e).1 x hx).2).2))
  have HTE := Lib.hid (tls_errs T l)
  have HTN : Hid (toN l = if liE l = 0 then liS l else 0) := Lib.hid rfl
  have HXL : Hid ((taxL l T).length ≤ 1000000) := Lib.hid (by rw [taxL_len]; have := H3.out; omega)
  generalize tlsE T l = E at CTL CTX HTE
  generalize txE T = E1 at CTF CCT HTE
  generalize toN l = N at CTO HTN
  generalize liS l = S at CSU HTN
  generalize liE l = E2 at CTO CLF CCL CSU HTE HTN
  generalize l.any isTx = B at CHA HTE
  generalize taxL l T = X at CTL CTX HXL
  go_wp2_with fail
  refine (CTL.out _ hT hL).mono ?_; rintro e w3 ⟨vy, rfl, hY, hh⟩
  replace hT := hT.quiet hh
  replace hL := hL.quiet hh
  replace hG := hG.trans hh
  clear hh
  obtain ⟨Y, hYY⟩ : ∃ Y, (if E = 0 then X else []) = Y := ⟨_, rfl⟩
  have HYY : Hid (Y = if E = 0 then X else []) := Lib.hid hYY.symm
  rw [hYY] at hY
  clear hYY
  obtain ⟨a3, k3, rfl, -, -⟩ := RdR.form hY
  go_wp2_with fail
  refine (CTO.out _ hL).mono ?_; rintro e w4 ⟨rfl, hh⟩
  replace hT := hT.quiet hh
  replace hL := hL.quiet hh
  replace hY := hY.quiet hh
  replace hG := hG.trans hh
  clear hh
  go_wp2_with fail
  refine (CTF.out _ hT).mono ?_; rintro e w5 ⟨rfl, hh⟩
  replace hT := hT.quiet hh
  replace hL := hL.quiet hh
  replace hY := hY.quiet hh
  replace hG := hG.trans hh
  clear hh
  go_wp2_with fail
  refine (CLF.out _ hL).mono ?_; rintro e w6 ⟨rfl, hh⟩
  replace hT := hT.quiet hh
  replace hL := hL.quiet hh
  replace hY := hY.quiet hh
  replace hG := hG.trans hh
  clear hh
  go_wp2_with fail
  refine (CCT.out _ hT).mono ?_; rintro e w7 ⟨rfl, hh⟩
  replace hT := hT.quiet hh
  replace hL := hL.quiet hh
  replace hY := hY.quiet hh
  replace hG := hG.trans hh
  clear hh
  go_wp2_with fail
  refine (CCL.out _ hL).mono ?_; rintro e w8 ⟨rfl, hh⟩
  replace hT := hT.quiet hh
  replace hL := hL.quiet hh
  replace hY := hY.quiet hh
  replace hG := hG.trans hh
  clear hh
  by_cases h2 : E2 = 0
  · obtain rfl : N = S := by rw [HTN.out, if_pos h2]
    have CS2 := Lib.hid (CSU.out h2)
    subst h2
    clear CSU HTN
    go_wp2_with fail
    refine (CS2.out _ hL).mono ?_; rintro e w9 ⟨rfl, hh⟩
    replace hT := hT.quiet hh
    replace hL := hL.quiet hh
    replace hY := hY.quiet hh
    replace hG := hG.trans hh
    clear hh
    go_wp2_with fail
    refine (CHA.out _ hL).mono ?_; rintro e w10 ⟨rfl, hh⟩
    replace hT := hT.quiet hh
    replace hL := hL.quiet hh
    replace hY := hY.quiet hh
    replace hG := hG.trans hh
    clear hh
    go_wp2_with fail
    refine (whenT_c B 4 _).mono ?_; rintro e w' ⟨rfl, rfl⟩
    obtain ⟨M, hM⟩ : ∃ M : Int, (if B = true then 4 else 0) = M := ⟨_, rfl⟩
    rw [hM] at HTE ⊢
    clear hM
    go_wp2_with fail
    refine (errs_c [E1, 0, M] _ _ (Rd.new #[.int .i64 E1, .int .i64 0, .int .i64 M] rfl (by show 3 ≤ maxLen; decide)) (by simp)).mono ?_; rintro e w' ⟨rfl, rfl⟩
    have hh := (G.refl w10 none).alloc (.cells #[.int .i64 E1, .int .i64 0, .int .i64 M] 30)
    replace hT := hT.quiet hh
    replace hL := hL.quiet hh
    replace hY := hY.quiet hh
    replace hG := hG.trans hh
    clear hh
    generalize w10.alloc (.cells #[.int .i64 E1, .int .i64 0, .int .i64 M] 30) = w14 at hT hL hY hG ⊢
    rw [HTE.out]
    by_cases hE : E = 0
    · obtain rfl : Y = X := by rw [HYY.out, if_pos hE]
      have CT2 := Lib.hid (CTX.out hE)
      subst hE
      clear HYY CTX HTE
      go_wp2_with fail
      refine (CT2.out _ hT hL).mono ?_; rintro e w15 ⟨vz, rfl, hZ, hh⟩
      have hZ2 := Rd.of_owns hZ
      replace hY := hY.quiet hh
      replace hG := hG.trans hh
      clear hh
      go_wp2_with fail
      refine (liEq_c _ _ Y _ hY hZ2 HXL.out).mono ?_; rintro e w16 ⟨rfl, hh⟩
      replace hG := hG.trans hh
      clear hh
      go_wp2_with fail
      refine (priced_c _).mono ?_; rintro e wm ⟨rfl, hh⟩
      replace hG := hG.trans hh
      go_wp2_with fail
      go_ret
      exact ⟨rfl, hG⟩
    · obtain rfl : Y = [] := by rw [HYY.out, if_neg hE]
      have hb0 : (E != 0) = true := bne_iff_ne.2 hE
      clear HYY CTX HTE hE
      go_wp2_with fail
      refine (priced_c _).mono ?_; rintro e wm ⟨rfl, hh⟩
      replace hG := hG.trans hh
      go_wp2_with fail
      go_ret
      exact ⟨rfl, hG⟩
  · obtain rfl : N = 0 := by rw [HTN.out, if_neg h2]
    have hb2 : (E2 == 0) = false := beq_eq_false_iff_ne.2 h2
    have hb3 : (E2 != 0) = true := bne_iff_ne.2 h2
    clear CSU HTN h2
    go_wp2_with fail
    refine (CHA.out _ hL).mono ?_; rintro e w10 ⟨rfl, hh⟩
    replace hT := hT.quiet hh
    replace hL := hL.quiet hh
    replace hY := hY.quiet hh
    replace hG := hG.trans hh
    clear hh
    go_wp2_with fail
    refine (whenT_c B 4 _).mono ?_; rintro e w' ⟨rfl, rfl⟩
    obtain ⟨M, hM⟩ : ∃ M : Int, (if B = true then 4 else 0) = M := ⟨_, rfl⟩
    rw [hM] at HTE ⊢
    clear hM
    go_wp2_with fail
    refine (errs_c [E1, E2, M] _ _ (Rd.new #[.int .i64 E1, .int .i64 E2, .int .i64 M] rfl (by show 3 ≤ maxLen; decide)) (by simp)).mono ?_; rintro e w' ⟨rfl, rfl⟩
    have hh := (G.refl w10 none).alloc (.cells #[.int .i64 E1, .int .i64 E2, .int .i64 M] 30)
    replace hT := hT.quiet hh
    replace hL := hL.quiet hh
    replace hY := hY.quiet hh
    replace hG := hG.trans hh
    clear hh
    generalize w10.alloc (.cells #[.int .i64 E1, .int .i64 E2, .int .i64 M] 30) = w14 at hT hL hY hG ⊢
    rw [HTE.out]
    by_cases hE : E = 0
    · obtain rfl : Y = X := by rw [HYY.out, if_pos hE]
      have CT2 := Lib.hid (CTX.out hE)
      subst hE
      clear HYY CTX HTE
      go_wp2_with fail
      refine (CT2.out _ hT hL).mono ?_; rintro e w15 ⟨vz, rfl, hZ, hh⟩
      have hZ2 := Rd.of_owns hZ
      replace hY := hY.quiet hh
      replace hG := hG.trans hh
      clear hh
      go_wp2_with fail
      refine (liEq_c _ _ Y _ hY hZ2 HXL.out).mono ?_; rintro e w16 ⟨rfl, hh⟩
      replace hG := hG.trans hh
      clear hh
      go_wp2_with fail
      refine (priced_c _).mono ?_; rintro e wm ⟨rfl, hh⟩
      replace hG := hG.trans hh
      go_wp2_with fail
      go_ret
      exact ⟨rfl, hG⟩
    · obtain rfl : Y = [] := by rw [HYY.out, if_neg hE]
      have hb0 : (E != 0) = true := bne_iff_ne.2 hE
      clear HYY CTX HTE hE
      go_wp2_with fail
      refine (priced_c _).mono ?_; rintro e wm ⟨rfl, hh⟩
      replace hG := hG.trans hh
      go_wp2_with fail
      go_ret
      exact ⟨rfl, hG⟩
end Go.Proofs.YtkgkbjijiapcpaaDoor

/- What the row's list of variables gives; a start that meets it. -/
namespace Go.Proofs.YtkgkbjijiapcpaaDoor
open Go.ChangeShapes Go.WideShapes Go.ChangeAt Go.RowKit

theorem own : ownKnob Tryd.prog.godebug = none := by kernel_rfl
theorem c1 : Tryd.prog.cellsOf 3 = 1 := by kernel_rfl
def laidL : List (String × DataW Unit) := [("unicode/utf8.acceptRanges", Rows.laid_unicode_utf8_acceptRanges), ("unicode/utf8.first", Rows.laid_unicode_utf8_first)]
/-- A start that meets the list: what the door's run leaves, Go's own table laid by hand. -/
noncomputable def laidWorld (os : Os) : World :=
  { World.doorLaid Tryd.prog 200 os with heap := (World.doorLaid Tryd.prog 200 os).heap.modify 0 fun
      | .cells _ t fr => .cells (Lib.firstTab.map (Value.int .u8)).toArray t fr
      | o => o }
set_option maxRecDepth 100000 in
theorem laid_met (os : Os) : laidMetH Tryd.prog laidL ((laidWorld os).forCall (fun _ _ => 0) ⟨#[], #[.slice none 0 0], []⟩).memory :=
  laidMetH_of_parts3 (fuel := 8) (laidMet_of_run' 8 (by kernel_rfl) (by kernel_rfl)) (by kernel_rfl) (by kernel_rfl)

/-! ### The row's last step -/
section
variable {H : Type} {enc : TypeId × Value → H} {P : Program}
theorem post_quiet {f : Func} {s : ChangeSpec} {apart fresh handsOn again : Bool} {W W' : World} {args : Array Value} {v : Value} {ds gs : List (DataW H)} {before pa pv : List MemPlace}
    (hW : DataW.Whole enc P f.params.toList s.vars apart W args.toList ds gs before) (hg : G W W' none)
    (hres : ∀ (b : Nat) (sp : Nat → Bool) (hd : Bool), DataW.TrodAll enc P W' b sp hd f.resultTypes.toList (v.resultList f.resultTypes.size) (s.fn H (ds ++ gs)).results [])
    (hargs : ∀ sp : Nat → Bool, (∀ p ∈ before, sp p.block = true) → DataW.TrodAll enc P W' 0 sp true f.params.toList args.toList (s.fn H (ds ++ gs)).args pa)
    (hvars : ∀ sp : Nat → Bool, (∀ p ∈ before, sp p.block = true) → DataW.TrodVars enc P W' sp s.vars (s.fn H (ds ++ gs)).vars pv)
    (hps : before = pa ++ pv)
    (hok : ∀ (j : Nat) (t : TypeId) (r : Value), f.resultTypes[j]? = some t → (v.resultList f.resultTypes.size)[j]? = some r → Value.okWide P W' .any 0 t r) :
    s.post enc P f apart fresh handsOn again W args v W' := by
  have hb := hg.below
  have lt : ∀ p ∈ before, p.block < W.heap.size := fun p hp => hW.lt p hp
  have old : ∀ p ∈ before, (fun b => decide (b < W.heap.size)) p.block = true := fun p hp => decide_eq_true (lt p hp)
  have sub : ∀ p, p ∈ ([] ++ pa) ++ pv → p ∈ before := fun p hp => by rw [hps]; simpa using hp
  refine ⟨ds, gs, before, [], pa, pv, hW, hres _ _ _, hargs _ old, hvars _ old, World.keptBut_mono (fun p hp => ⟨hp, .inr (by rw [← List.mem_append, ← hps]; exact hp)⟩) (hb.frame (· ∈ before)), fun _ => ⟨hok, ?_⟩⟩
  obtain ⟨_, _, _, _, _, hz, hn⟩ := hW
  refine ⟨_, _, ([] ++ pa) ++ pv, ⟨[] ++ pa, pv, trodAll_append (hargs _ fun _ _ => rfl) (hres _ _ _), hvars _ fun _ _ => rfl, rfl, fun b off hp => ?_, fun ha => ?_⟩, fun p hp _ => sub p hp⟩
  · rw [hb.frozen (lt _ (sub _ hp))]
    exact hz b off (sub _ hp)
  · have h := hn ha
    rw [hps] at h
    simpa using h
end
theorem laidOut : laidOutB Tryd.prog = true := by kernel_rfl
theorem wf64 {n : Int} (h : (Lit.int .i64 n).wf = true) : -9223372036854775808 ≤ n ∧ n ≤ 9223372036854775807 := by
  have h1 : IntKind.i64.min = -9223372036854775808 := rfl
  have h2 : IntKind.i64.max = 9223372036854775807 := rfl
  simp only [Lit.wf, Bool.and_eq_true, decide_eq_true_eq] at h
  omega
set_option maxRecDepth 100000 in
theorem has_of_ok {W : World} {base : Nat} {a : Addr} {n c : Nat} (hok : Value.okWide Tryd.prog W .any base 22 (.slice (some a) n c)) : a.spot = none ∧ a.block < W.heap.size := by
  simp only [Value.okWide, Tryd.underlying22, Cell.okWide, Cell.ok] at hok
  obtain ⟨_, _, _, h2, row, cells, h3, _⟩ := hok
  refine ⟨h2, ?_⟩
  unfold World.shape? at h3
  cases hh : W.heap[a.block]? with
  | none => simp [hh] at h3
  | some o => exact (Array.getElem?_eq_some_iff.1 hh).1
set_option maxRecDepth 100000 in
/-- The list of numbers that came in, as the walk wants it. -/
theorem rd_of_trod {H : Type} {enc : TypeId × Value → H} {W : World} {base : Nat} {v : Value} {d : DataW H} {p : List MemPlace} (hok : Value.okWide Tryd.prog W .any base 22 v) (h : DataW.Trod enc Tryd.prog W 0 (fun _ => true) true 22 v d p) :
    ∃ (a : Option Addr) (n c : Nat) (zs : List Int), v = .slice a n c ∧ Rd W 1 (.slice a n c) n (zs.map (Value.int .i64)) ∧ ∀ z ∈ zs, -9223372036854775808 ≤ z ∧ z ≤ 9223372036854775807 := by
  obtain ⟨a0, len, cap, rfl⟩ := okWide_slice Tryd.underlying22 hok
  obtain ⟨fuel, hf⟩ := h
  rcases open_ints Tryd.underlying22 Tryd.underlying3 c1 hf with ⟨hcs, _⟩ | ⟨a, len', cap', zs, hcs, _, hl, hm, hz, _, hcell, hw⟩
  · have hcs' : [Value.slice a0 len cap] = [Value.slice none 0 0] := hcs
    injection hcs' with e _
    injection e with e1 e2 e3
    subst e1; subst e2; subst e3
    exact ⟨none, 0, 0, [], rfl, ⟨none, 0, rfl, Nat.le_refl _, Nat.zero_le _, rfl, fun _ => ⟨rfl, rfl⟩, fun b hb => by cases hb⟩, fun z hz => by cases hz⟩
  · have hcs' : [Value.slice a0 len cap] = [Value.slice (some a) len' cap'] := hcs
    injection hcs' with e _
    injection e with e1 e2 e3
    subst e1; subst e2; subst e3
    simp only [if_true] at hz
    obtain ⟨s1, s2⟩ := has_of_ok hok
    refine ⟨some a, len, cap, zs.take len, rfl, ⟨some a, cap, rfl, hl, hm, by simp; omega, (fun e => by cases e), fun b hb => ?_⟩, fun z hz' => wf64 (hw z (List.mem_of_mem_take hz'))⟩
    obtain rfl := Option.some.inj hb
    refine ⟨s1, s2, fun j u hj => ?_⟩
    rw [List.getElem?_map] at hj
    obtain ⟨z, hz1, rfl⟩ := Option.map_eq_some_iff.1 hj
    have hjl := (List.getElem?_eq_some_iff.1 hz1).1
    simp at hjl
    have hc := hcell j (by omega)
    have hz2 : zs[j]? = some z := by rw [← hz1, List.getElem?_take, if_pos (by omega)]
    rw [List.getD, hz2] at hc
    have ha : a.add j = ⟨a.block, a.off + j, none⟩ := by
      obtain ⟨ab, ao, asp⟩ := a
      dsimp only at s1
      subst s1
      exact add_at ab ao j
    rw [ha] at hc
    exact hc
end Go.Proofs.YtkgkbjijiapcpaaDoor
