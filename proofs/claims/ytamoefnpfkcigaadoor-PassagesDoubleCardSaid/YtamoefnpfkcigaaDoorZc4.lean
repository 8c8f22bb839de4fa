/- Lin, Pck, GenO, Odm, Spe, Spm, Spn, Mrk, Spo, Tln. -/
import Derived.Test.YtamoefnpfkcigaaDoorZc1
import Derived.Test.YtamoefnpfkcigaaDoorZc2
import Derived.Deep.CutRange
import Derived.Laws.EntriesVeiled
import Derived.BigQuiet
import Derived.Test.YtamoefnpfkcigaaDoorZc3
import Derived.Laws.OwnMore
/- Lines: CheckLines, LinesFault, sumOf, Total, SumOf. Written by genlin.py. -/
namespace Go.Proofs.YtamoefnpfkcigaaDoor
open Go.RowKit

/-- A line: kind, key, cents. -/
abbrev Li := Int × ByteArray × Int
def liC (x : Li) : Array Value := #[.int .i64 x.1, .string x.2.1, .int .i64 x.2.2]
theorem liC_sz (x : Li) : (liC x).size = 3 := rfl
theorem li_info (x : Li) : (Tryd.prog.info? 72).map (·.size) = some (liC x).size := (by kernel_rfl : (Tryd.prog.info? 72).map (·.size) = some 3)
def LiOk (l : List Li) : Prop := ∀ x ∈ l, Small x.2.1
def liErr : List Li → Int
  | [] => 0
  | x :: r => if inB x.1 1 6 = false then 4 else if keyB x.2.1 = false then 5 else if inB x.2.2 (-1000000000) 1000000000 = false then 1 else liErr r
def liE (l : List Li) : Int := if 1000 < l.length then 2 else liErr l
/-- What the lines cost in all. -/
def liS (l : List Li) : Int := (l.map fun x => x.2.2).sum
def LiB (l : List Li) : Prop := ∀ x ∈ l, -1000000000 ≤ x.2.2 ∧ x.2.2 ≤ 1000000000
theorem liErr_b : ∀ (l : List Li), liErr l = 0 → LiB l
  | [], _, p, hp => by cases hp
  | x :: r, h, p, hp => by
    unfold liErr at h
    split at h
    · omega
    · split at h
      · omega
      · split at h
        · omega
        · rename_i h3
          rcases List.mem_cons.1 hp with rfl | hp
          · simpa [inB] using h3
          · exact liErr_b r h p hp
theorem liE_ok {l : List Li} (h : liE l = 0) : LiB l ∧ l.length ≤ 1000 := by
  unfold liE at h
  split at h
  · omega
  · exact ⟨liErr_b l h, by omega⟩
theorem liS_step (l : List Li) (k : Nat) (p : Li) (hp : l[k]? = some p) : liS (l.take (k + 1)) = liS (l.take k) + p.2.2 := by
  unfold liS
  rw [List.take_add_one, hp]
  simp
theorem liS_bnd (l : List Li) (hb : LiB l) : ∀ k, k ≤ l.length → -(1000000000 * (k : Int)) ≤ liS (l.take k) ∧ liS (l.take k) ≤ 1000000000 * (k : Int)
  | 0, _ => by simp [liS]
  | k + 1, h => by
    obtain ⟨p, hp⟩ : ∃ p, l[k]? = some p := ⟨_, List.getElem?_eq_getElem (by omega)⟩
    have h1 := liS_bnd l hb k (by omega)
    have h2 := hb p (List.mem_of_getElem? hp)
    rw [liS_step l k p hp]
    omega
def LiRel (w : World) (l : List Li) (i : Value) (wr : World) : Prop :=
  ∃ k : Nat, k ≤ l.length ∧ i = .int .i64 k ∧ liErr l = liErr (l.drop k) ∧ G w wr none
def LsuRel (w : World) (l : List Li) (s i : Value) (wr : World) : Prop :=
  ∃ k : Nat, k ≤ l.length ∧ i = .int .i64 k ∧ s = .int .i64 (liS (l.take k)) ∧ G w wr none
theorem liRow {W w : World} {bb bo n cap : Nat} {l : List Li} (h : RdR W 3 liC (.slice (some ⟨bb, bo, none⟩) n cap) l) (hG : G W w none) {k : Nat} {p : Li} (hp : l[k]? = some p) :
    ∀ j v, (liC p).toList[j]? = some v → w.cell? ((⟨bb, bo + k * 3, none⟩ : Addr).add j) = some v := fun j v hv => by
  rw [add_at]
  exact RdR.cell liC_sz h hG hp j v hv
def toN (l : List Li) : Int := if liE l = 0 then liS l else 0
end Go.Proofs.YtamoefnpfkcigaaDoor

/- What was picked; a block as a row; 'when' at literals. -/
namespace Go.Proofs.YtamoefnpfkcigaaDoor
open Go.RowKit

theorem small_of {s : ByteArray} (h : s.size ≤ 100) : Small s := by unfold Small; omega
theorem bnd_pick {zs : List Int} {r : Int} (h : r ∈ zs) (hz : zs.all (fun z => decide (-1099511627776 ≤ z ∧ z ≤ 1099511627776)) = true) : bnd r := by
  unfold bnd
  exact of_decide_eq_true (List.all_eq_true.1 hz r h)
theorem small_pick {zs : List ByteArray} {r : ByteArray} (h : r ∈ zs) (hz : zs.all (fun z => decide (z.size ≤ 100)) = true) : Small r := small_of (of_decide_eq_true (List.all_eq_true.1 hz r h))
theorem Bk.rd {w : World} {g : Nat} {T : TypeId} {cs : Array Value} (h : Bk w g T cs) (z n : Nat) (hc : cs.size = n * z) (hn : n ≤ 1000) : Rd w z (.slice (some ⟨g, 0, none⟩) n n) n cs.toList := by
  refine ⟨_, n, rfl, Nat.le_refl _, by unfold maxLen; omega, by simpa using hc, (fun e => by cases e), fun b hb => ?_⟩
  obtain rfl := Option.some.inj hb
  refine ⟨rfl, h.lt, fun j u hj => ?_⟩
  rw [Nat.zero_add, h.cell]
  simpa using hj
end Go.Proofs.YtamoefnpfkcigaaDoor

/- Generator: the lines of a bill. Written by genlin.py. -/
namespace Go.Proofs.YtamoefnpfkcigaaDoor
open Go.RowKit

theorem li_oneL (r : Li) : ∀ u ∈ (liC r).toList, u.oneCell' = true := by
  intro u hu
  simp [liC] at hu
  rcases hu with rfl | rfl | rfl <;> rfl
theorem li_rowOk : RowOk Tryd.prog 72 64 3 32 (.agg (liC (0, ⟨#[]⟩, 0))) liC := ⟨by kernel_rfl, Tryd.underlying64, li_oneL, liC_sz, rfl, by omega, by omega⟩
abbrev OwnLi (w : World) (base : Nat) (v : Value) (l : List Li) : Prop := OwnX 72 3 liC w base v l
theorem LiOk.snoc {l : List Li} {r : Li} (h : LiOk l) (hr : Small r.2.1) : LiOk (l ++ [r]) := fun p hp => by
  rcases List.mem_append.1 hp with hp | hp
  · exact h p hp
  · obtain rfl := List.mem_singleton.1 hp
    exact hr
theorem LiOk.set {l : List Li} (h : LiOk l) {r : Li} (hr : Small r.2.1) (k : Nat) : LiOk (l.set k r) := fun p hp => by
  rcases List.mem_or_eq_of_mem_set hp with hp | rfl
  · exact h p hp
  · exact hr
def BillPost (s K : Nat) (w : World) (e : Ending) (w' : World) : Prop :=
  ∃ (v : Value) (l : List Li), e = .returned v ∧ OwnLi w' w.heap.size v l ∧ LiOk l ∧ l.length ≤ 6 ∧ SB w' s (K + 30) ∧ G w w' (some s)
theorem bill_fin {w w' : World} {s K : Nat} {v : Value} {l : List Li} (hown : OwnLi w' w.heap.size v l) (hl : LiOk l) (hn : l.length ≤ 6) (hSB : SB w' s (K + 30)) (hG : G w w' (some s)) : BillPost s K w (.returned v) w' :=
  ⟨v, l, rfl, hown, hl, hn, hSB, hG⟩
def BlRel (w : World) (s K m : Nat) (s3 s7 : Value) (wr : World) : Prop :=
  ∃ (k : Nat) (l : List Li), k ≤ m ∧ l.length ≤ k ∧ s7 = .int .i64 k ∧ OwnLi wr w.heap.size s3 l ∧ LiOk l ∧ SB wr s (K + 1 + 3 * k) ∧ G w wr (some s)
end Go.Proofs.YtamoefnpfkcigaaDoor

/- Odds: the numbers of cases, reckoned as the program does. No program. -/
namespace Go.Proofs.YtamoefnpfkcigaaDoor
open Go.RowKit

/-- The new numbers of cases after j of the old ones were spread. -/
def nx (c : List Int) (p : Int) : Nat → List Int
  | 0 => List.replicate (c.length + 1) 0
  | j + 1 => ((nx c p j).set j ((nx c p j).getD j 0 + c.getD j 0 * (100 - p))).set (j + 1) ((nx c p j).getD (j + 1) 0 + c.getD j 0 * p)
def cas (ps : List Int) : List Int := ps.foldl (fun c p => nx c p c.length) [1]
theorem nx_len (c : List Int) (p : Int) (j : Nat) : (nx c p j).length = c.length + 1 := by
  induction j with
  | zero => simp [nx]
  | succ j ih => simp [nx, ih]
theorem sum_set (l : List Int) : ∀ (i : Nat) (v : Int), i < l.length → (l.set i v).sum = l.sum + (v - l.getD i 0) := by
  induction l with
  | nil => intro i v h; simp at h
  | cons x r ih =>
    intro i v h
    cases i with
    | zero => simp; omega
    | succ i =>
      have := ih i v (by simpa using h)
      simp only [List.set_cons_succ, List.sum_cons, List.getD_cons_succ]
      omega
theorem gdset_ne (l : List Int) (i j : Nat) (v : Int) (h : i ≠ j) : (l.set i v).getD j 0 = l.getD j 0 := by
  simp [List.getD, h]
theorem take_sum (c : List Int) (j : Nat) (h : j < c.length) : (c.take (j + 1)).sum = (c.take j).sum + c.getD j 0 := by
  rw [List.take_succ_eq_append_getElem h, List.sum_append]
  simp [List.getD, h]
theorem nx_sum (c : List Int) (p : Int) (j : Nat) (h : j ≤ c.length) : (nx c p j).sum = 100 * (c.take j).sum := by
  induction j with
  | zero => simp [nx]
  | succ j ih =>
    have hl := nx_len c p j
    unfold nx
    rw [sum_set _ _ _ (by rw [List.length_set, hl]; omega), sum_set _ _ _ (by rw [hl]; omega), gdset_ne _ _ _ _ (by omega), ih (by omega), take_sum c j (by omega)]
    have : c.getD j 0 * (100 - p) + c.getD j 0 * p = 100 * c.getD j 0 := by rw [← Int.mul_add]; rw [show (100 - p + p : Int) = 100 by omega, Int.mul_comm]
    omega
def NN (c : List Int) : Prop := ∀ x ∈ c, 0 ≤ x
theorem NN.getD {c : List Int} (h : NN c) (j : Nat) : 0 ≤ c.getD j 0 := by
  unfold List.getD
  cases hc : c[j]? with
  | none => exact Int.le_refl 0
  | some x => exact h x (List.mem_of_getElem? hc)
theorem NN.set {c : List Int} (h : NN c) (i : Nat) {v : Int} (hv : 0 ≤ v) : NN (c.set i v) := fun x hx => by
  rcases List.mem_or_eq_of_mem_set hx with hx | rfl
  · exact h x hx
  · exact hv
theorem nx_nn {c : List Int} {p : Int} (hc : NN c) (h0 : 0 ≤ p) (h1 : p ≤ 100) (j : Nat) : NN (nx c p j) := by
  induction j with
  | zero => intro x hx; have := List.eq_of_mem_replicate hx; omega
  | succ j ih =>
    unfold nx
    refine NN.set (NN.set ih j ?_) (j + 1) ?_
    · exact Int.add_nonneg (ih.getD j) (Int.mul_nonneg (hc.getD j) (by omega))
    · exact Int.add_nonneg (ih.getD (j + 1)) (Int.mul_nonneg (hc.getD j) h0)
theorem NN.sum {c : List Int} (h : NN c) : 0 ≤ c.sum := by
  induction c with
  | nil => exact Int.le_refl 0
  | cons x r ih =>
    have h1 := h x (List.mem_cons_self ..)
    have h2 := ih fun y hy => h y (List.mem_cons_of_mem _ hy)
    simp only [List.sum_cons]
    omega
theorem NN.le_sum {c : List Int} (h : NN c) (j : Nat) : c.getD j 0 ≤ c.sum := by
  induction c generalizing j with
  | nil => simp
  | cons x r ih =>
    have h1 := h x (List.mem_cons_self ..)
    have hr : NN r := fun y hy => h y (List.mem_cons_of_mem _ hy)
    have h2 := hr.sum
    cases j with
    | zero => simp only [List.getD_cons_zero, List.sum_cons]; omega
    | succ j =>
      have := ih hr j
      simp only [List.getD_cons_succ, List.sum_cons]
      omega
theorem cas_snoc (ps : List Int) (p : Int) : cas (ps ++ [p]) = nx (cas ps) p (cas ps).length := by
  unfold cas
  rw [List.foldl_append]
  rfl
theorem cas_ok (ps : List Int) (h : ∀ p ∈ ps, 0 ≤ p ∧ p ≤ 100) : (cas ps).length = ps.length + 1 ∧ NN (cas ps) ∧ (cas ps).sum = 100 ^ ps.length := by
  have key : ∀ (n : Nat) (ps : List Int), ps.length = n → (∀ p ∈ ps, 0 ≤ p ∧ p ≤ 100) → (cas ps).length = ps.length + 1 ∧ NN (cas ps) ∧ (cas ps).sum = 100 ^ ps.length := by
    intro n
    induction n with
    | zero =>
      intro ps hn _
      obtain rfl := List.eq_nil_of_length_eq_zero hn
      refine ⟨rfl, ?_, rfl⟩
      intro x hx
      have := List.mem_singleton.1 (show x ∈ [1] from hx)
      omega
    | succ n ih =>
      intro ps hn h
      obtain ⟨qs, p, rfl⟩ : ∃ qs p, ps = qs ++ [p] := ⟨ps.dropLast, ps.getLast (by intro e; rw [e] at hn; simp at hn), (List.dropLast_concat_getLast _).symm⟩
      simp at hn
      obtain ⟨h1, h2, h3⟩ := ih qs hn (fun q hq => h q (by simp [hq]))
      obtain ⟨p0, p1⟩ := h p (by simp)
      rw [cas_snoc]
      refine ⟨by rw [nx_len, h1]; simp, nx_nn h2 p0 p1 _, ?_⟩
      rw [nx_sum _ _ _ (Nat.le_refl _), List.take_length, h3, List.length_append, List.length_singleton, Int.pow_succ, Int.mul_comm]
  exact key ps.length ps rfl h
/-- A row of ints. -/
def ic (l : List Int) : Array Value := (l.map (Value.int .i64)).toArray
theorem ic_at (l : List Int) (j : Nat) (h : j < l.length) : (ic l)[j]? = some (.int .i64 (l.getD j 0)) := by
  simp [ic, List.getD, h]
theorem ic_set (l : List Int) (j : Nat) (v : Int) : (ic l).setIfInBounds j (.int .i64 v) = ic (l.set j v) := by
  simp [ic, List.map_set]
theorem ic_size (l : List Int) : (ic l).size = l.length := by simp [ic]
end Go.Proofs.YtamoefnpfkcigaaDoor

/- mark.Split. Written by genspe.py. -/
namespace Go.Proofs.YtamoefnpfkcigaaDoor
open Go.RowKit

theorem cf_rest : ∀ (args : Array Value) (w : World), (callFunc 41 args).run Tryd.prog w = .ok (.enter 41 args) w := fun args w => by kernel_rfl
theorem cf_crest : ∀ (args : Array Value) (w : World), (callFunc 43 args).run Tryd.prog w = .ok (.enter 43 args) w := fun args w => by kernel_rfl
set_option maxRecDepth 100000 in
set_option maxHeartbeats 4000000 in
theorem crest_c (c : Int) (ws : List Int) (v : Value) (i j : Nat) (gC gW gS gF : Nat) (w : World) (he : spE c ws = 0) (hi : i < ws.length) (hj : j < ws.length) (hC : Bk w gC 3 #[.int .i64 c]) (hW : Bk w gW 22 #[v]) (hS : Bk w gS 3 #[.int .i64 ws.sum])
    (hF : Bk w gF 73 #[.func (.func 41) #[] #[.pointer (some ⟨gC, 0, none⟩), .pointer (some ⟨gW, 0, none⟩), .pointer (some ⟨gS, 0, none⟩)]]) (hr : RdI w v ws) :
    Calls Tryd.prog 43 #[.int .i64 i, .int .i64 j, .pointer (some ⟨gF, 0, none⟩)] w fun e w' => e = .returned (.int .i64 (cpI (restI c ws j) (restI c ws i))) ∧ G w w' none := by
  have hcf := cf_rest
  have hR := hr
  have hq := (G.refl w none).drew
  replace hC := hC.quiet hq
  replace hW := hW.quiet hq
  replace hS := hS.quiet hq
  replace hF := hF.quiet hq
  replace hR := Rd.quiet hR hq
  have hG := hq
  clear hr hq
  go_enter Tryd.func43, Tryd.ntmps43
  go_upto_region 1 with fail
  refine wp_region_held_drew (S := (fun w' : World => w'.cell? ⟨gF, 0, none⟩ = some (.func (.func 41) #[] #[.pointer (some ⟨gC, 0, none⟩), .pointer (some ⟨gW, 0, none⟩), .pointer (some ⟨gS, 0, none⟩)]))) (by kernel_rfl) ?_ (fun hHeld => ?_)
  · exact (hF.cell 0)
  refine wpAnyH_take (i := 0) (oi := { dst := some 6, op := Op.load 73 (Operand.tmp 2), type := 73, pos := _, after := #[], guard := none }) (v := ?_) rfl (by kernel_rfl) (by kernel_rfl) (by kernel_rfl) (fun _ _ _ h => h) (Or.inl ⟨by rfl, ?_⟩) (by assumption) ?_
  rotate_left
  · (intro w hSw; have z0 := hSw; clear hSw; (go_simp <;> with_reducible rfl))
  try simp only [Act.put, List.setIfInBounds_toArray, List.set_cons_zero, List.set_cons_succ]
  refine wpAnyH_take (i := 1) (oi := { dst := some 7, op := Op.move (Operand.tmp 1), type := 3, pos := _, after := #[], guard := none }) (v := ?_) rfl (by kernel_rfl) (by kernel_rfl) (by kernel_rfl) (fun _ _ _ h => h) (Or.inl ⟨by rfl, ?_⟩) (by assumption) ?_
  rotate_left
  · (intro w hSw; have z0 := hSw; clear hSw; (go_simp <;> with_reducible rfl))
  try simp only [Act.put, List.setIfInBounds_toArray, List.set_cons_zero, List.set_cons_succ]
  refine wpAnyH_take (i := 3) (oi := { dst := some 9, op := Op.load 73 (Operand.tmp 2), type := 73, pos := _, after := #[], guard := none }) (v := ?_) rfl (by kernel_rfl) (by kernel_rfl) (by kernel_rfl) (fun _ _ _ h => h) (Or.inl ⟨by rfl, ?_⟩) (by assumption) ?_
  rotate_left
  · (intro w hSw; have z0 := hSw; clear hSw; (go_simp <;> with_reducible rfl))
  try simp only [Act.put, List.setIfInBounds_toArray, List.set_cons_zero, List.set_cons_succ]
  refine wpAnyH_take (i := 4) (oi := { dst := some 10, op := Op.move (Operand.tmp 0), type := 3, pos := _, after := #[], guard := none }) (v := ?_) rfl (by kernel_rfl) (by kernel_rfl) (by kernel_rfl) (fun _ _ _ h => h) (Or.inl ⟨by rfl, ?_⟩) (by assumption) ?_
  rotate_left
  · (intro w hSw; have z0 := hSw; clear hSw; (go_simp <;> with_reducible rfl))
  try simp only [Act.put, List.setIfInBounds_toArray, List.set_cons_zero, List.set_cons_succ]
  refine wpAnyH_ready (rs := [2]) (by kernel_rfl) (by simp) ?_
  refine AllReadyH.cons (o := { dst := some 8, op := Op.call { callee := Callee.value (Operand.tmp 6), args := #[Operand.tmp 7], argTypes := #[3] }, type := 3, pos := _, after := #[{ on := 0, ground := Ground.data }, { on := 1, ground := Ground.data }], guard := none }) rfl (fun K hK => ?_) AllReadyH.nil
  go_simp
  refine (rest_c c ws v j gC gW gS _ he hj hC hW hS hR).mono ?_
  rintro e w3 ⟨rfl, hh⟩
  replace hC := hC.quiet hh
  replace hW := hW.quiet hh
  replace hS := hS.quiet hh
  replace hF := hF.quiet hh
  replace hR := Rd.quiet hR hh
  replace hG := hG.trans hh
  clear hh
  refine hK.out _ _ ?_ (fun hHeld => ?_)
  · exact (hF.cell 0)
  clear hK K
  try simp only [Act.put, List.setIfInBounds_toArray, List.set_cons_zero, List.set_cons_succ]
  refine wpAnyH_ready (rs := [5]) (by kernel_rfl) (by simp) ?_
  refine AllReadyH.cons (o := { dst := some 11, op := Op.call { callee := Callee.value (Operand.tmp 9), args := #[Operand.tmp 10], argTypes := #[3] }, type := 3, pos := _, after := #[{ on := 3, ground := Ground.data }, { on := 4, ground := Ground.data }, { on := 2, ground := Ground.chain }], guard := none }) rfl (fun K hK => ?_) AllReadyH.nil
  go_simp
  refine (rest_c c ws v i gC gW gS _ he hi hC hW hS hR).mono ?_
  rintro e w4 ⟨rfl, hh⟩
  replace hC := hC.quiet hh
  replace hW := hW.quiet hh
  replace hS := hS.quiet hh
  replace hF := hF.quiet hh
  replace hR := Rd.quiet hR hh
  replace hG := hG.trans hh
  clear hh
  refine hK.out _ _ ?_ (fun hHeld => ?_)
  · exact (hF.cell 0)
  clear hK K
  try simp only [Act.put, List.setIfInBounds_toArray, List.set_cons_zero, List.set_cons_succ]
  refine wpAnyH_ready (rs := [6]) (by kernel_rfl) (by simp) ?_
  refine AllReadyH.cons (o := { dst := some 12, op := Op.call { callee := Callee.value (Operand.func 44), args := #[Operand.tmp 8, Operand.tmp 11], argTypes := #[3, 3] }, type := 3, pos := _, after := #[{ on := 2, ground := Ground.data }, { on := 5, ground := Ground.data }, { on := 5, ground := Ground.chain }], guard := none }) rfl (fun K hK => ?_) AllReadyH.nil
  go_simp
  refine (compareI_c _ _ _).mono ?_
  rintro e w' ⟨rfl, rfl⟩
  refine hK.out _ _ ?_ (fun hHeld => ?_)
  · exact (hF.cell 0)
  clear hK K
  try simp only [Act.put, List.setIfInBounds_toArray, List.set_cons_zero, List.set_cons_succ]
  refine wpAnyH_take (i := 7) (oi := { dst := some 5, op := Op.assign (Operand.tmp 12), type := 3, pos := _, after := #[{ on := 6, ground := Ground.data }, { on := 6, ground := Ground.chain }, { on := 0, ground := Ground.phase }, { on := 1, ground := Ground.phase }, { on := 2, ground := Ground.phase }, { on := 3, ground := Ground.phase }, { on := 4, ground := Ground.phase }, { on := 5, ground := Ground.phase }, { on := 6, ground := Ground.phase }], guard := none }) (v := ?_) rfl (by kernel_rfl) (by kernel_rfl) (by kernel_rfl) (fun _ _ _ h => h) (Or.inl ⟨by rfl, ?_⟩) (by assumption) ?_
  rotate_left
  · (intro w hSw; have z0 := hSw; clear hSw; (go_simp <;> with_reducible rfl))
  try simp only [Act.put, List.setIfInBounds_toArray, List.set_cons_zero, List.set_cons_succ]
  refine wpAnyH_done (by kernel_rfl) ?_ _
  clear hHeld
  go_wp2_with fail
  go_ret
  exact ⟨rfl, hG⟩
theorem mkCells (n : Nat) : madeCells (Value.cells (.int .i64 0)) n = ic (List.replicate n 0) := by
  apply Array.ext
  · simp [madeCells, ic]
  · intro k h1 h2
    simp [madeCells, ic, Value.cells, Nat.mod_one]
theorem mkInts (n : Nat) (hn : n ≤ 1000) (w : World) : (Instr.makeSlice 22 (.int .i64 (n : Int)) (.int .i64 (n : Int))).run Tryd.prog w = .ok (.slice (some ⟨w.heap.size, 0, none⟩) n n) (w.alloc (.cells (ic (List.replicate n 0)) 3)) := by
  obtain ⟨i0, hi, hz0, hz1, hz2⟩ := info_parts (show (Tryd.prog.info? 3).map (fun i => (i.zero, i.size, i.bytes)) = some (some (.int .i64 0), 1, 8) by kernel_rfl)
  have h := run_make (P := Tryd.prog) w 22 3 i0 (.int .i64 0) Tryd.underlying22 hi hz0 .i64 .i64 n n (by omega) (by omega) (by rw [hz2]; omega) (by omega)
  rw [h, hz1, Int.toNat_natCast, Nat.mul_one, mkCells]
def flI (c : Int) (ws : List Int) (i : Nat) : Int := c * ws.getD i 0 / ws.sum
def pK (c : Int) (ws : List Int) (k : Nat) : List Int := (List.range ws.length).map fun i => if i < k then flI c ws i else 0
def oK (n k : Nat) : List Int := (List.range n).map fun i => if i < k then (i : Int) else 0
def lK (c : Int) (ws : List Int) (k : Nat) : Int := c - ((List.range k).map (flI c ws)).sum
theorem pK_len (c : Int) (ws : List Int) (k : Nat) : (pK c ws k).length = ws.length := by simp [pK]
theorem oK_len (n k : Nat) : (oK n k).length = n := by simp [oK]
theorem pK_0 (c : Int) (ws : List Int) : pK c ws 0 = List.replicate ws.length 0 := by
  apply List.ext_getElem <;> simp [pK]
theorem oK_0 (n : Nat) : oK n 0 = List.replicate n 0 := by
  apply List.ext_getElem <;> simp [oK]
theorem pK_step (c : Int) (ws : List Int) (k : Nat) : (pK c ws k).set k (flI c ws k) = pK c ws (k + 1) := by
  apply List.ext_getElem
  · simp [pK]
  · intro i h1 h2
    simp only [pK, List.getElem_set, List.getElem_map, List.getElem_range]
    by_cases h : k = i
    · rw [if_pos h, if_pos (by omega), h]
    · rw [if_neg h]
      by_cases q : i < k
      · rw [if_pos q, if_pos (by omega)]
      · rw [if_neg q, if_neg (by omega)]
theorem oK_step (n k : Nat) : (oK n k).set k (k : Int) = oK n (k + 1) := by
  apply List.ext_getElem
  · simp [oK]
  · intro i h1 h2
    simp only [oK, List.getElem_set, List.getElem_map, List.getElem_range]
    by_cases h : k = i
    · rw [if_pos h, if_pos (by omega), h]
    · rw [if_neg h]
      by_cases q : i < k
      · rw [if_pos q, if_pos (by omega)]
      · rw [if_neg q, if_neg (by omega)]
theorem lK_step (c : Int) (ws : List Int) (k : Nat) : lK c ws (k + 1) = lK c ws k - flI c ws k := by
  unfold lK
  rw [List.range_succ, List.map_append, List.sum_append]
  simp
  omega
theorem fl_bnd {c : Int} {ws : List Int} (he : spE c ws = 0) (i : Nat) : 0 ≤ flI c ws i ∧ flI c ws i ≤ 5761440000000000 := by
  obtain ⟨h1, h2, h3, h4⟩ := spE_ok he
  have hs := (spA_bnd h3).1
  have hg : 0 ≤ ws.getD i 0 ∧ ws.getD i 0 ≤ 5761440 := by
    rw [List.getD_eq_getElem?_getD]
    cases hp : ws[i]? with
    | none => simp
    | some p => have := h3 p (List.mem_of_getElem? hp); unfold inB at this; simpa using this
  have hp1 : 0 ≤ c * ws.getD i 0 := Int.mul_nonneg h1.1 hg.1
  have hp2 : c * ws.getD i 0 ≤ 1000000000 * 5761440 := Int.mul_le_mul h1.2 hg.2 hg.1 (by omega)
  unfold flI
  refine ⟨Int.ediv_nonneg hp1 hs, ?_⟩
  have := Int.ediv_le_self (ws.sum) hp1
  omega
theorem lK_bnd {c : Int} {ws : List Int} (he : spE c ws = 0) : ∀ k : Nat, k ≤ 1000 → -(5761440000000000 * (k : Int)) ≤ lK c ws k ∧ lK c ws k ≤ 1000000000
  | 0, _ => by have := (spE_ok he).1; unfold lK; simp; omega
  | k + 1, h => by
    have ih := lK_bnd he k (by omega)
    have q := fl_bnd he k
    rw [lK_step]
    push_cast
    omega
theorem sum_mul (c : Int) : ∀ l : List Int, (l.map (c * ·)).sum = c * l.sum
  | [] => by simp
  | x :: r => by simp only [List.map_cons, List.sum_cons, sum_mul c r]; rw [Int.mul_add]
theorem map_getD (ws : List Int) (f : Int → Int) : (List.range ws.length).map (fun i => f (ws.getD i 0)) = ws.map f := by
  apply List.ext_getElem
  · simp
  · intro i h1 h2
    simp at h1
    simp [List.getD, h1]
theorem own_bk {w : World} {g base n : Nat} {l : List Int} (h : Bk w g 3 (ic l)) (hb : base ≤ g) (hn : l.length = n) (hm : n ≤ 1000) : OwnIn w base (.slice (some ⟨g, 0, none⟩) n n) l := by
  subst hn
  have hsz : (ic l).size = l.length := by simp [ic]
  refine ⟨by rw [rowL_len inC_sz], .inr ⟨g, l.length, ic l, rfl, hb, h, Nat.le_refl _, by unfold maxLen; omega, by rw [hsz, Nat.mul_one], ?_⟩⟩
  rw [in_rowL, Nat.mul_one]
  have e : (ic l).toList = l.map (Value.int .i64) := by simp [ic]
  rw [e, List.take_of_length_le (by simp)]
theorem oK_mem {n : Nat} {z : Int} (h : z ∈ oK n n) : ∃ i : Nat, i < n ∧ z = (i : Int) := by
  unfold oK at h
  obtain ⟨i, hi, rfl⟩ := List.mem_map.1 h
  have := List.mem_range.1 hi
  exact ⟨i, this, by rw [if_pos this]⟩
theorem insJ_mem {α : Type} (c : α → α → Bool) : ∀ (j : Nat) (l : List α), ∀ z ∈ insJ c j l, z ∈ l
  | 0, _, _, h => h
  | j + 1, l, z, h => by
    unfold insJ at h
    split at h
    · next x y hx hy =>
      split at h
      · have h2 := insJ_mem c j _ z h
        rcases List.mem_or_eq_of_mem_set h2 with h2 | rfl
        · rcases List.mem_or_eq_of_mem_set h2 with h2 | rfl
          · exact h2
          · exact List.mem_of_getElem? hy
        · exact List.mem_of_getElem? hx
      · exact h
    · exact h
theorem isF_mem {α : Type} (c : α → α → Bool) : ∀ (n i : Nat) (l : List α), ∀ z ∈ isF c n i l, z ∈ l
  | 0, _, _, _, h => h
  | n + 1, i, l, z, h => insJ_mem c i l z (isF_mem c n (i + 1) _ z h)
theorem isrt_mem {α : Type} (c : α → α → Bool) (l : List α) : ∀ z ∈ isrt c l, z ∈ l := isF_mem c _ _ l
/-- What is left is no more than there are parts. -/
theorem lf_bnd {c : Int} {ws : List Int} (he : spE c ws = 0) : 0 ≤ lK c ws ws.length ∧ lK c ws ws.length ≤ (ws.length : Int) := by
  obtain ⟨h1, h2, h3, h4⟩ := spE_ok he
  have hs := spA_bnd h3
  have hs0 : 0 < ws.sum := by omega
  have hfl : (List.range ws.length).map (flI c ws) = ws.map (fun x => c * x / ws.sum) := map_getD ws (fun x => c * x / ws.sum)
  have key : ∀ l : List Int, ws.sum * (l.map (fun x => c * x / ws.sum)).sum ≤ c * l.sum ∧ c * l.sum ≤ ws.sum * (l.map (fun x => c * x / ws.sum)).sum + ws.sum * (l.length : Int) := by
    intro l
    induction l with
    | nil => simp
    | cons x r ih =>
      have e1 := Int.emod_nonneg (c * x) (show ws.sum ≠ 0 by omega)
      have e2 := Int.emod_lt_of_pos (c * x) hs0
      have e3 := Int.mul_ediv_add_emod (c * x) ws.sum
      simp only [List.map_cons, List.sum_cons, List.length_cons]
      rw [Int.mul_add, Int.mul_add]
      push_cast
      rw [Int.mul_add]
      omega
  have k1 := key ws
  unfold lK
  rw [hfl]
  obtain ⟨a1, a2⟩ := k1
  generalize (ws.map (fun x => c * x / ws.sum)).sum = F at a1 a2 ⊢
  have b1 : ws.sum * F ≤ ws.sum * c := by rw [Int.mul_comm ws.sum c]; exact a1
  have b2 : ws.sum * c ≤ ws.sum * (F + (ws.length : Int)) := by rw [Int.mul_add, Int.mul_comm ws.sum c]; exact a2
  have c1 := Int.le_of_mul_le_mul_left b1 hs0
  have c2 := Int.le_of_mul_le_mul_left b2 hs0
  omega
/-- The order in which parts get one more. -/
def spO (c : Int) (ws : List Int) : List Int := isrt (fun x y : Int => decide (cpI (restI c ws y.toNat) (restI c ws x.toNat) < 0)) (oK ws.length ws.length)
def incI (l : List Int) (i : Int) : List Int := l.set i.toNat (l.getD i.toNat 0 + 1)
def spP (c : Int) (ws : List Int) : List Int := ((spO c ws).take (lK c ws ws.length).toNat).foldl incI (pK c ws ws.length)
def SpRel (w : World) (c : Int) (v : Value) (ws : List Int) (gC gW gS gP gO : Nat) (s10 s34 : Value) (wr : World) : Prop :=
  ∃ k : Nat, k ≤ ws.length ∧ s34 = .int .i64 k ∧ s10 = .int .i64 (lK c ws k) ∧ Bk wr gP 3 (ic (pK c ws k)) ∧ Bk wr gO 3 (ic (oK ws.length k)) ∧ Bk wr gC 3 #[.int .i64 c] ∧ Bk wr gW 22 #[v] ∧ Bk wr gS 3 #[.int .i64 ws.sum] ∧ G w wr none
def SqRel (w : World) (gP base n lf : Nat) (SO P0 : List Int) (s66 : Value) (wr : World) : Prop :=
  ∃ (k : Nat) (P : List Int), k ≤ lf ∧ s66 = .int .i64 k ∧ (SO.take k).foldl incI P0 = P ∧ P.length = n ∧ (∀ i : Nat, 0 ≤ P.getD i 0 ∧ P.getD i 0 ≤ 5761440000000000 + (k : Int)) ∧ Bk wr gP 3 (ic P) ∧ OwnIn wr base (.slice (some ⟨base, 0, none⟩) n n) SO ∧ G w wr none
theorem pK_bnd {c : Int} {ws : List Int} (he : spE c ws = 0) (i : Nat) : 0 ≤ (pK c ws ws.length).getD i 0 ∧ (pK c ws ws.length).getD i 0 ≤ 5761440000000000 := by
  rw [List.getD_eq_getElem?_getD]
  cases h : (pK c ws ws.length)[i]? with
  | none => simp
  | some z =>
    have hm := List.mem_of_getElem? h
    unfold pK at hm
    obtain ⟨j, hj, rfl⟩ := List.mem_map.1 hm
    rw [if_pos (List.mem_range.1 hj)]
    exact fl_bnd he j
set_option maxRecDepth 100000 in
set_option maxHeartbeats 8000000 in
theorem split_c (c : Int) (v : Value) (ws : List Int) (w : World) (hr : RdI w v ws) (hn : ws.length < 20) :
    Calls Tryd.prog 8 #[.int .i64 c, v] w fun e w' => ∃ v', e = .returned (.tuple #[v', .int .i64 (spE c ws)]) ∧ RdI w' v' (if spE c ws = 0 then spP c ws else []) ∧ G w w' none := by
  obtain ⟨a, cap, rfl, hcap, hm⟩ := RdR.form hr
  have hC := (Bk.new w 3 #[.int .i64 c]).alloc (.cells #[.slice a ws.length cap] 22)
  have hW := Bk.newAt (w := w.alloc (.cells #[.int .i64 c] 3)) (b := w.heap.size + 1) (by simp) 22 #[.slice a ws.length cap]
  have hG := ((G.refl w none).alloc (.cells #[.int .i64 c] 3)).alloc (.cells #[.slice a ws.length cap] 22)
  have HR := Lib.hid hr
  obtain ⟨RS, hRS⟩ : ∃ RS, (if spE c ws = 0 then spP c ws else []) = RS := ⟨_, rfl⟩
  have HRS := Lib.hid hRS
  rw [hRS]
  clear hRS hr
  obtain ⟨E, hE⟩ : ∃ E, spE c ws = E := ⟨_, rfl⟩
  have HE := Lib.hid hE
  rw [hE]
  clear hE
  go_enter Tryd.func8, Tryd.ntmps8
  go_upto_region 1 with fail
  generalize (w.alloc (.cells #[.int .i64 c] 3)).alloc (.cells #[.slice a ws.length cap] 22) = w2 at hC hW hG ⊢
  have c0 : w2.cell? ⟨w.heap.size, 0, none⟩ = some (.int .i64 c) := hC.cell 0
  have c1 : w2.cell? ⟨w.heap.size + 1, 0, none⟩ = some (.slice a ws.length cap) := hW.cell 0
  go_wp2_with fail
  refine (checkSplit_c c _ ws _ (Rd.quiet HR.out hG) (by omega)).mono ?_; rintro e w3 ⟨rfl, hh⟩
  rw [HE.out]
  have hC3 := (hC.quiet hh).alloc (.cells #[.int .i64 (spS c ws)] 3)
  have hW3 := (hW.quiet hh).alloc (.cells #[.int .i64 (spS c ws)] 3)
  have hS3 := Bk.new w3 3 #[.int .i64 (spS c ws)]
  have hG3 := (hG.trans hh).alloc (.cells #[.int .i64 (spS c ws)] 3)
  have hlt3 : w.heap.size + 1 < w3.heap.size := (hW.quiet hh).lt
  clear hC hW hG hh c0 c1
  go_upto_region 2 with fail
  generalize w3.alloc (.cells #[.int .i64 (spS c ws)] 3) = w4 at hC3 hW3 hS3 hG3 ⊢
  generalize w3.heap.size = gS at hS3 hlt3 ⊢
  by_cases k1 : E = 0
  · subst k1
    have hsum : spS c ws = ws.sum := by unfold spS; rw [if_pos HE.out]
    rw [hsum] at hS3
    have HRP : Hid (RS = spP c ws) := Lib.hid (by rw [← HRS.out, if_pos HE.out])
    clear hsum HRS
    have c1 : w4.cell? ⟨w.heap.size + 1, 0, none⟩ = some (.slice a ws.length cap) := hW3.cell 0
    have c0 : w4.cell? ⟨w.heap.size, 0, none⟩ = some (.int .i64 c) := hC3.cell 0
    have hmk := fun w => mkInts ws.length (by omega) w
    have hlt4 := hS3.lt
    have hP5 := (Bk.new w4 3 (ic (List.replicate ws.length 0))).alloc (.cells (ic (List.replicate ws.length 0)) 3)
    have hO5 := Bk.newAt (w := w4.alloc (.cells (ic (List.replicate ws.length 0)) 3)) (b := w4.heap.size + 1) (by simp) 3 (ic (List.replicate ws.length 0))
    have hC5 := (hC3.alloc (.cells (ic (List.replicate ws.length 0)) 3)).alloc (.cells (ic (List.replicate ws.length 0)) 3)
    have hW5 := (hW3.alloc (.cells (ic (List.replicate ws.length 0)) 3)).alloc (.cells (ic (List.replicate ws.length 0)) 3)
    have hS5 := (hS3.alloc (.cells (ic (List.replicate ws.length 0)) 3)).alloc (.cells (ic (List.replicate ws.length 0)) 3)
    have hG5 := (hG3.alloc (.cells (ic (List.replicate ws.length 0)) 3)).alloc (.cells (ic (List.replicate ws.length 0)) 3)
    have c1a : (w4.alloc (.cells (ic (List.replicate ws.length 0)) 3)).cell? ⟨w.heap.size + 1, 0, none⟩ = some (.slice a ws.length cap) := (hW3.alloc (.cells (ic (List.replicate ws.length 0)) 3)).cell 0
    go_upto_region 6 with fail
    clear c0 c1 c1a hmk
    generalize (w4.alloc (.cells (ic (List.replicate ws.length 0)) 3)).alloc (.cells (ic (List.replicate ws.length 0)) 3) = w5 at hP5 hO5 hC5 hW5 hS5 hG5 ⊢
    have hgw := hG3.size
    generalize w4.heap.size = gP at hP5 hO5 hlt4 hgw ⊢
    rw [← pK_0 c ws] at hP5
    rw [← oK_0 ws.length] at hO5
    clear hC3 hW3 hS3 hG3
    have c0 : w5.cell? ⟨w.heap.size, 0, none⟩ = some (.int .i64 c) := hC5.cell 0
    have c1 : w5.cell? ⟨w.heap.size + 1, 0, none⟩ = some (.slice a ws.length cap) := hW5.cell 0
    go_wp2_with fail
    go_loopw [10, 34] (SpRel w c (.slice a ws.length cap) ws w.heap.size (w.heap.size + 1) gS gP (gP + 1)) (fun _ i _ => ws.length - (intOf i).toNat)
    case atStart => exact ⟨0, by omega, rfl, by rw [show lK c ws 0 = c by simp [lK]], hP5, hO5, hC5, hW5, hS5, hG5⟩
    case round =>
      clear c0 c1 hP5 hO5 hC5 hW5 hS5 hG5
      obtain ⟨k, hk, rfl, rfl, hP, hO, hC, hW, hS, hG⟩ := hrel
      by_cases hlt : k < ws.length
      · obtain ⟨p, hp⟩ : ∃ p, ws[k]? = some p := ⟨_, List.getElem?_eq_getElem hlt⟩
        obtain ⟨h1, h2, h3, h4⟩ := spE_ok HE.out
        have hpb : 0 ≤ p ∧ p ≤ 5761440 := by have := h3 p (List.mem_of_getElem? hp); unfold inB at this; simpa using this
        have hfl : flI c ws k = c * p / ws.sum := by unfold flI; rw [List.getD_eq_getElem?_getD, hp]; rfl
        obtain ⟨bb, bo, rfl, -, -⟩ := RdR.elem inC_sz HR.out hG hp
        have hc := RdR.cell inC_sz HR.out hG hp 0 (.int .i64 p) rfl
        simp only [Nat.add_zero, Nat.mul_one] at hc
        have hsb := (spA_bnd h3)
        have hp1 : 0 ≤ c * p := Int.mul_nonneg h1.1 hpb.1
        have hp2 : c * p ≤ 1000000000 * 5761440 := Int.mul_le_mul h1.2 hpb.2 hpb.1 (by omega)
        have hfb := fl_bnd HE.out k
        have hlb := lK_bnd HE.out k (by omega)
        have HST := Lib.hid (lK_step c ws k)
        have HPS := Lib.hid (pK_step c ws k)
        have HOS := Lib.hid (oK_step ws.length k)
        have HGP : Hid ((pK c ws (k + 1)).getD k 0 = flI c ws k) := Lib.hid (by simp [pK, List.getD, hlt])
        obtain ⟨fl, hfl2⟩ : ∃ fl, flI c ws k = fl := ⟨_, rfl⟩
        rw [hfl2] at hfl hfb HST HPS HGP
        clear hfl2
        obtain ⟨s, hse⟩ : ∃ s, ws.sum = s := ⟨_, rfl⟩
        rw [hse] at hfl hsb h4 hS
        have HSE := Lib.hid hse
        clear hse
        obtain ⟨m, hm2⟩ : ∃ m, c * p = m := ⟨_, rfl⟩
        have hw1 : IntKind.i64.wrap (c * p) = m := by rw [hm2, IntKind.wrap_i64]; omega
        rw [hm2] at hp1 hp2 hfl
        have htd : m.tdiv s = fl := by rw [Int.tdiv_eq_ediv_of_nonneg hp1, hfl]
        have hed : m / s = fl := hfl.symm
        have hwf : IntKind.i64.wrap fl = fl := by rw [IntKind.wrap_i64]; omega
        have hwl : IntKind.i64.wrap (lK c ws k - fl) = lK c ws (k + 1) := by rw [HST.out, IntKind.wrap_i64]; omega
        have hsn : ¬ s = 0 := by omega
        have HK := Lib.hid hlt
        have hki : (k : Int) < (ws.length : Int) := by omega
        have k0 : (0 : Int) ≤ (k : Int) := by omega
        have d0 : wr.cell? ⟨w.heap.size, 0, none⟩ = some (.int .i64 c) := hC.cell 0
        have d1 : wr.cell? ⟨gS, 0, none⟩ = some (.int .i64 s) := hS.cell 0
        have d2 : wr.cell? ⟨gP, k, none⟩ = some (.int .i64 ((pK c ws k).getD k 0)) := (hP.cell k).trans (ic_at _ k (by rw [pK_len]; omega))
        have d3 := hP.free k
        clear hp h1 h2 h3 h4 hpb hsb hp1 hp2 hfb hlb hm2 hfl
        go_upto_region 11 with fail
        have hne : ∀ g, g ≠ gP → g ≠ (⟨gP, k, none⟩ : Addr).block := fun g h => h
        have hP6 : Bk (wr.setCell ⟨gP, k, none⟩ (.int .i64 fl)) gP 3 (ic (pK c ws (k + 1))) := by
          have h := hP.set k (.int .i64 fl)
          rw [ic_set, HPS.out] at h
          exact h
        have hO6 := hO.far (p := ⟨gP, k, none⟩) (show gP + 1 ≠ gP by omega) (.int .i64 fl)
        have hC6 := hC.far (p := ⟨gP, k, none⟩) (show w.heap.size ≠ gP by omega) (.int .i64 fl)
        have hW6 := hW.far (p := ⟨gP, k, none⟩) (show w.heap.size + 1 ≠ gP by omega) (.int .i64 fl)
        have hS6 := hS.far (p := ⟨gP, k, none⟩) (show gS ≠ gP by omega) (.int .i64 fl)
        have hG6 := hG.setCell (p := ⟨gP, k, none⟩) (.inl (show w.heap.size ≤ gP by omega)) (.int .i64 fl)
        clear d0 d1 d2 d3 hP hO hC hW hS hG hne hc
        generalize wr.setCell ⟨gP, k, none⟩ (.int .i64 fl) = w6 at hP6 hO6 hC6 hW6 hS6 hG6 ⊢
        have d2 : w6.cell? ⟨gP, k, none⟩ = some (.int .i64 fl) := by
          have h := (hP6.cell k).trans (ic_at _ k (by rw [pK_len]; omega))
          rwa [HGP.out] at h
        have d3 : w6.cell? ⟨gP + 1, k, none⟩ = some (.int .i64 ((oK ws.length k).getD k 0)) := (hO6.cell k).trans (ic_at _ k (by rw [oK_len]; omega))
        have d4 := hO6.free k
        go_upto_region 13 with fail
        have hO7 : Bk (w6.setCell ⟨gP + 1, k, none⟩ (.int .i64 k)) (gP + 1) 3 (ic (oK ws.length (k + 1))) := by
          have h := hO6.set k (.int .i64 k)
          rw [ic_set, HOS.out] at h
          exact h
        have hP7 := hP6.far (p := ⟨gP + 1, k, none⟩) (show gP ≠ gP + 1 by omega) (.int .i64 k)
        have hC7 := hC6.far (p := ⟨gP + 1, k, none⟩) (show w.heap.size ≠ gP + 1 by omega) (.int .i64 k)
        have hW7 := hW6.far (p := ⟨gP + 1, k, none⟩) (show w.heap.size + 1 ≠ gP + 1 by omega) (.int .i64 k)
        have hS7 := hS6.far (p := ⟨gP + 1, k, none⟩) (show gS ≠ gP + 1 by omega) (.int .i64 k)
        have hG7 := hG6.setCell (p := ⟨gP + 1, k, none⟩) (.inl (show w.heap.size ≤ gP + 1 by omega)) (.int .i64 k)
        clear d2 d3 d4 hP6 hO6 hC6 hW6 hS6 hG6
        generalize w6.setCell ⟨gP + 1, k, none⟩ (.int .i64 k) = w7 at hP7 hO7 hC7 hW7 hS7 hG7 ⊢
        go_wp2_with fail
        go_roundw
        case rel => exact ⟨k + 1, by omega, by go_num, rfl, hP7, hO7, hC7, hW7, by rw [HSE.out]; exact hS7, hG7⟩
        case measure => have := HK.out; simp [intOf]; omega
      · obtain rfl : k = ws.length := by omega
        have hlft := lf_bnd HE.out
        have hlw := lK_bnd HE.out ws.length (by omega)
        have hF8 := Bk.new wr 73 #[.func (.func 41) #[] #[.pointer (some ⟨w.heap.size, 0, none⟩), .pointer (some ⟨w.heap.size + 1, 0, none⟩), .pointer (some ⟨gS, 0, none⟩)]]
        have hC8 := hC.alloc (.cells #[.func (.func 41) #[] #[.pointer (some ⟨w.heap.size, 0, none⟩), .pointer (some ⟨w.heap.size + 1, 0, none⟩), .pointer (some ⟨gS, 0, none⟩)]] 73)
        have hW8 := hW.alloc (.cells #[.func (.func 41) #[] #[.pointer (some ⟨w.heap.size, 0, none⟩), .pointer (some ⟨w.heap.size + 1, 0, none⟩), .pointer (some ⟨gS, 0, none⟩)]] 73)
        have hS8 := hS.alloc (.cells #[.func (.func 41) #[] #[.pointer (some ⟨w.heap.size, 0, none⟩), .pointer (some ⟨w.heap.size + 1, 0, none⟩), .pointer (some ⟨gS, 0, none⟩)]] 73)
        have hP8 := hP.alloc (.cells #[.func (.func 41) #[] #[.pointer (some ⟨w.heap.size, 0, none⟩), .pointer (some ⟨w.heap.size + 1, 0, none⟩), .pointer (some ⟨gS, 0, none⟩)]] 73)
        have hO8 := hO.alloc (.cells #[.func (.func 41) #[] #[.pointer (some ⟨w.heap.size, 0, none⟩), .pointer (some ⟨w.heap.size + 1, 0, none⟩), .pointer (some ⟨gS, 0, none⟩)]] 73)
        have hG8 := hG.alloc (.cells #[.func (.func 41) #[] #[.pointer (some ⟨w.heap.size, 0, none⟩), .pointer (some ⟨w.heap.size + 1, 0, none⟩), .pointer (some ⟨gS, 0, none⟩)]] 73)
        have hlO := hO.lt
        clear hC hW hS hP hO hG
        obtain ⟨lf, hlf⟩ := Int.eq_ofNat_of_zero_le hlft.1
        have HLF := Lib.hid hlf
        rw [hlf] at hlft ⊢
        have hlfn : lf ≤ ws.length := by omega
        have hn0 : ¬ ws.length = 0 := by
          intro e
          have := (spE_ok HE.out).2.2.2
          rw [List.eq_nil_of_length_eq_zero e] at this
          exact this rfl
        clear hlf hlw hlft
        go_upto_region 15 with fail
        generalize wr.alloc (.cells #[.func (.func 41) #[] #[.pointer (some ⟨w.heap.size, 0, none⟩), .pointer (some ⟨w.heap.size + 1, 0, none⟩), .pointer (some ⟨gS, 0, none⟩)]] 73) = w8 at hF8 hC8 hW8 hS8 hP8 hO8 hG8 ⊢
        have hFr : gP + 1 < wr.heap.size := hlO
        generalize wr.heap.size = gF at hF8 hFr ⊢
        have hown8 : OwnIn w8 (gP + 1) (.slice (some ⟨gP + 1, 0, none⟩) ws.length ws.length) (oK ws.length ws.length) := own_bk hO8 (Nat.le_refl _) (oK_len _ _) (by omega)
        have hal : ∀ (x y : Int) (w' : World), x ∈ oK ws.length ws.length → y ∈ oK ws.length ws.length → GS (S1 (.slice (some ⟨gP + 1, 0, none⟩) ws.length ws.length)) w8 w' → Calls Tryd.prog 43 (#[.int .i64 x, .int .i64 y] ++ #[.pointer (some ⟨gF, 0, none⟩)]) w' fun e w'' => e = .returned (.int .i64 (cpI (restI c ws y.toNat) (restI c ws x.toNat))) ∧ G w' w'' none := by
          intro x y w' hx hy hg
          obtain ⟨i, hi, rfl⟩ := oK_mem hx
          obtain ⟨j, hj, rfl⟩ := oK_mem hy
          have nb : ∀ k, k ≠ gP + 1 → ¬ S1 (.slice (some ⟨gP + 1, 0, none⟩) ws.length ws.length) k := fun k hk e => hk (Option.some.inj e).symm
          rw [Int.toNat_natCast, Int.toNat_natCast]
          have hq := crest_c c ws (.slice a ws.length cap) i j w.heap.size (w.heap.size + 1) gS gF w' HE.out hi hj (hC8.gs hg (nb _ (by omega))) (hW8.gs hg (nb _ (by omega))) (hS8.gs hg (nb _ (by omega))) (hF8.gs hg (nb _ (by omega))) (Rd.gs (Rd.quiet HR.out hG8) hg (fun k e => nb _ (by have := Rd.blk HR.out k e; omega)))
          exact hq
        have CST := Lib.hid (sortStable_c 43 #[.pointer (some ⟨gF, 0, none⟩)] (fun x y => cpI (restI c ws y.toNat) (restI c ws x.toNat)) _ _ _ w8 cf_crest hal hown8 (by rw [oK_len]; exact hn))
        clear hal hown8
        go_wp2_with fail
        refine CST.out.mono ?_; rintro e w9 ⟨rfl, hown9, hS9⟩
        clear CST
        have hown9 : OwnIn w9 (gP + 1) (.slice (some ⟨gP + 1, 0, none⟩) ws.length ws.length) (spO c ws) := hown9
        have hP9 := hP8.gs hS9 (fun e => by have : gP + 1 = gP := Option.some.inj e; omega)
        have hG9 := GS.own hG8 hS9 (fun k e => by have : gP + 1 = k := Option.some.inj e; omega)
        have hlO9 : (spO c ws).length = ws.length := by unfold spO isrt; rw [isF_len, oK_len]
        have HOM := Lib.hid (fun z hz => oK_mem (isrt_mem _ (oK ws.length ws.length) z hz) : ∀ z ∈ spO c ws, ∃ i : Nat, i < ws.length ∧ z = (i : Int))
        clear hP8 hO8 hF8 hC8 hW8 hS8 hG8 hS9
        have HRP2 : Hid (RS = ((spO c ws).take lf).foldl incI (pK c ws ws.length)) := Lib.hid (by rw [HRP.out, spP, HLF.out, Int.toNat_natCast])
        clear HRP
        generalize spO c ws = SO at hown9 hlO9 HOM HRP2
        have hP9l := pK_len c ws ws.length
        have hbd : ∀ i : Nat, 0 ≤ (pK c ws ws.length).getD i 0 ∧ (pK c ws ws.length).getD i 0 ≤ 5761440000000000 := pK_bnd HE.out
        generalize pK c ws ws.length = P0 at hP9 hP9l hbd HRP2
        have l0 : (0 : Int) ≤ (lf : Int) := by omega
        have l1 : (lf : Int) ≤ (ws.length : Int) := by omega
        go_wp2_with fail
        go_loopw [66] (SqRel w gP (gP + 1) ws.length lf SO P0) (fun i _ => lf - (intOf i).toNat)
        case atStart => exact ⟨0, P0, by omega, rfl, rfl, hP9l, fun i => by have := hbd i; omega, hP9, hown9, hG9⟩
        case round =>
          clear hP9 hown9 hG9 hP9l hbd
          obtain ⟨k, P, hk, rfl, hPe, hPl, hbd, hP, hown, hG⟩ := hrel
          have HPE := Lib.hid hPe
          clear hPe
          by_cases hlt : k < lf
          · obtain ⟨z, hz⟩ : ∃ z, SO[k]? = some z := ⟨_, List.getElem?_eq_getElem (by omega)⟩
            obtain ⟨i, hi, rfl⟩ := HOM.out z (List.mem_of_getElem? hz)
            have HSTEP : Hid ((SO.take (k + 1)).foldl incI P0 = P.set i (P.getD i 0 + 1)) := Lib.hid (by
              rw [List.take_add_one, hz, List.foldl_append, HPE.out]; simp [incI])
            have hc := RdR.cell inC_sz (Rd.of_owns hown) (G.refl _ none) hz 0 (.int .i64 (i : Int)) rfl
            simp only [Nat.add_zero, Nat.mul_one, Nat.zero_add] at hc
            have hb := hbd i
            have HB := Lib.hid hbd
            have d2 : wr.cell? ⟨gP, i, none⟩ = some (.int .i64 (P.getD i 0)) := (hP.cell i).trans (ic_at _ i (by omega))
            have d3 := hP.free i
            have hset := hP.set i (.int .i64 (P.getD i 0 + 1))
            rw [ic_set] at hset
            have hw : IntKind.i64.wrap (P.getD i 0 + 1) = P.getD i 0 + 1 := by rw [IntKind.wrap_i64]; omega
            have hki : (k : Int) < (lf : Int) := by omega
            have hii : (i : Int) < (ws.length : Int) := by omega
            have i0 : (0 : Int) ≤ (i : Int) := by omega
            have hownS := OwnX.far (p := ⟨gP, i, none⟩) hown (OwnX.ne hown (.inl (Nat.lt_succ_self _))) (.int .i64 (P.getD i 0 + 1))
            have hGS := hG.setCell (p := ⟨gP, i, none⟩) (.inl (show w.heap.size ≤ gP by omega)) (.int .i64 (P.getD i 0 + 1))
            have HPL : Hid ((P.set i (P.getD i 0 + 1)).length = ws.length) := Lib.hid (by rw [List.length_set]; exact hPl)
            have HBS : Hid (∀ j : Nat, 0 ≤ (P.set i (P.getD i 0 + 1)).getD j 0 ∧ (P.set i (P.getD i 0 + 1)).getD j 0 ≤ 5761440000000000 + ((k + 1 : Nat) : Int)) := Lib.hid fun j => by
              have hj := HB.out j
              by_cases e : i = j
              · subst e
                rw [List.getD_eq_getElem?_getD, List.getElem?_set_self (by omega)]
                simp only [Option.getD_some]
                push_cast
                omega
              · rw [List.getD_eq_getElem?_getD, List.getElem?_set_ne e, ← List.getD_eq_getElem?_getD]
                push_cast
                omega
            have HK := Lib.hid hlt
            clear hz hbd hb hPl hP hown hG
            generalize P.getD i 0 = PV at HSTEP HPL HBS hset d2 hw hownS hGS ⊢
            go_wp2_with fail
            go_roundw
            case rel => exact ⟨k + 1, P.set i (PV + 1), by omega, by go_num, HSTEP.out, HPL.out, HBS.out, hset, hownS, hGS⟩
            case measure => have := HK.out; simp [intOf]; omega
          · obtain rfl : k = lf := by omega
            go_wp2_with fail
            go_ret2
            exact ⟨_, rfl, by rw [HRP2.out, HPE.out]; exact Rd.of_owns (own_bk hP (Nat.zero_le _) hPl (by omega)), hG⟩
  · have hRS : RS = [] := by rw [← HRS.out, if_neg (by rw [HE.out]; exact k1)]
    have k1' : (E != 0) = true := by simpa using k1
    subst hRS
    clear HRS k1
    go_wp2_with fail
    go_ret2
    exact ⟨_, rfl, RdR.nil (c := inC) _ _, hG3⟩
end Go.Proofs.YtamoefnpfkcigaaDoor

/- Split: who gets one more (mathematics). No program. -/
namespace Go.Proofs.YtamoefnpfkcigaaDoor
open Go.RowKit

/-- A number goes into a list that is told from its end on. -/
def insR {α : Type} (c : α → α → Bool) : List α → α → List α
  | [], x => [x]
  | y :: q, x => if c x y = true then y :: insR c q x else x :: y :: q
theorem insR_perm {α : Type} (c : α → α → Bool) : ∀ (q : List α) (x : α), (insR c q x).Perm (x :: q)
  | [], x => List.Perm.refl _
  | y :: q, x => by
    unfold insR
    split
    · exact ((insR_perm c q x).cons y).trans (List.Perm.swap x y q)
    · exact List.Perm.refl _
theorem insR_mem {α : Type} {c : α → α → Bool} {q : List α} {x z : α} (h : z ∈ insR c q x) : z = x ∨ z ∈ q := by
  have := (insR_perm c q x).mem_iff.1 h
  simpa using this
/-- It stays sorted. -/
theorem insR_sort {α : Type} (c : α → α → Bool) (lt : α → α → Prop) (tr : ∀ a b d, lt a b → lt b d → lt a d) : ∀ (q : List α) (x : α), q.Pairwise (fun a b => lt b a) → (∀ y ∈ q, (c x y = true → lt x y) ∧ (c x y = false → lt y x)) → (insR c q x).Pairwise (fun a b => lt b a)
  | [], x, _, _ => by unfold insR; exact List.pairwise_singleton _ _
  | y :: q, x, h, hc => by
    obtain ⟨h1, h2⟩ := List.pairwise_cons.1 h
    unfold insR
    by_cases hxy : c x y = true
    · rw [if_pos hxy]
      refine List.pairwise_cons.2 ⟨fun z hz => ?_, insR_sort c lt tr q x h2 (fun z hz => hc z (List.mem_cons_of_mem _ hz))⟩
      rcases insR_mem hz with rfl | hz
      · exact (hc y List.mem_cons_self).1 hxy
      · exact h1 z hz
    · rw [if_neg hxy]
      have hyx := (hc y List.mem_cons_self).2 (by simpa using hxy)
      refine List.pairwise_cons.2 ⟨fun z hz => ?_, h⟩
      rcases List.mem_cons.1 hz with rfl | hz
      · exact hyx
      · exact tr _ _ _ (h1 z hz) hyx
/-- What one number's way down is. -/
theorem insJ_eq {α : Type} (c : α → α → Bool) : ∀ (q : List α) (x : α) (s : List α), insJ c q.length (q.reverse ++ x :: s) = (insR c q x).reverse ++ s
  | [], x, s => rfl
  | y :: q, x, s => by
    have hx : ((y :: q).reverse ++ x :: s)[q.length + 1]? = some x := by
      rw [List.getElem?_append_right (by simp)]; simp
    have hy : ((y :: q).reverse ++ x :: s)[q.length]? = some y := by
      rw [List.getElem?_append_left (by simp), List.reverse_cons, List.getElem?_append_right (by simp)]; simp
    rw [List.length_cons, insJ, hx, hy]
    simp only
    unfold insR
    by_cases hc : c x y = true
    · rw [if_pos hc, if_pos hc]
      have e : (((y :: q).reverse ++ x :: s).set (q.length + 1) y).set q.length x = q.reverse ++ x :: (y :: s) := by
        rw [List.reverse_cons, List.append_assoc]
        rw [List.set_append_right _ _ (by simp), List.set_append_right _ _ (by simp)]
        simp
      rw [e, insJ_eq c q x (y :: s)]
      simp
    · rw [if_neg hc, if_neg hc]
      simp
/-- What the whole sort is: the numbers go in, one after the other. -/
theorem isF_eq {α : Type} (c : α → α → Bool) : ∀ (s q : List α), isF c s.length q.length (q.reverse ++ s) = (s.foldl (insR c) q).reverse
  | [], q => by simp [isF]
  | x :: s, q => by
    rw [List.length_cons, isF, insJ_eq c q x s]
    have hl : q.length + 1 = (insR c q x).length := by rw [(insR_perm c q x).length_eq]; rfl
    rw [hl, isF_eq c s (insR c q x)]
    rfl
theorem isrt_eq {α : Type} (c : α → α → Bool) (l : List α) : isrt c l = (l.foldl (insR c) []).reverse := by
  cases l with
  | nil => rfl
  | cons x s =>
    have := isF_eq c s [x]
    simp only [List.reverse_cons, List.reverse_nil, List.nil_append, List.length_cons, List.length_nil, List.cons_append] at this
    unfold isrt
    rw [List.length_cons, Nat.add_sub_cancel]
    rw [show (0 + 1 : Nat) = 1 from rfl] at this
    rw [this]
    rfl
theorem foldR_perm {α : Type} (c : α → α → Bool) : ∀ (s q : List α), (s.foldl (insR c) q).Perm (s ++ q)
  | [], q => List.Perm.refl _
  | x :: s, q => by
    rw [List.foldl_cons]
    refine (foldR_perm c s _).trans ?_
    refine ((insR_perm c q x).append_left s).trans ?_
    exact List.perm_middle
/-- Sorted, where each that goes in is told apart from those that are in. -/
theorem foldR_sort {α : Type} (c : α → α → Bool) (lt : α → α → Prop) (tr : ∀ a b d, lt a b → lt b d → lt a d) : ∀ (s q : List α), q.Pairwise (fun a b => lt b a) → (∀ x ∈ s, ∀ y ∈ q, (c x y = true → lt x y) ∧ (c x y = false → lt y x)) →
    s.Pairwise (fun y x => (c x y = true → lt x y) ∧ (c x y = false → lt y x)) → (s.foldl (insR c) q).Pairwise (fun a b => lt b a)
  | [], q, h, _, _ => h
  | x :: s, q, h, hc, hs => by
    obtain ⟨h1, h2⟩ := List.pairwise_cons.1 hs
    rw [List.foldl_cons]
    refine foldR_sort c lt tr s _ (insR_sort c lt tr q x h (hc x List.mem_cons_self)) (fun z hz y hy => ?_) h2
    rcases insR_mem hy with rfl | hy
    · exact h1 z hz
    · exact hc z (List.mem_cons_of_mem _ hz) y hy
end Go.Proofs.YtamoefnpfkcigaaDoor

/- Split: a part gets one more if fewer others come before it than are left (mathematics). No program. -/
namespace Go.Proofs.YtamoefnpfkcigaaDoor
open Go.RowKit

def ltI (c : Int) (ws : List Int) (a b : Int) : Prop := restI c ws b.toNat < restI c ws a.toNat ∨ (restI c ws a.toNat = restI c ws b.toNat ∧ a < b)
theorem ltI_tr (c : Int) (ws : List Int) (a b d : Int) (h : ltI c ws a b) (k : ltI c ws b d) : ltI c ws a d := by
  unfold ltI at *
  omega
theorem ltI_ir (c : Int) (ws : List Int) (a : Int) : ¬ ltI c ws a a := by
  unfold ltI
  omega
theorem ltI_as {c : Int} {ws : List Int} {a b : Int} (h : ltI c ws a b) : ¬ ltI c ws b a := by
  unfold ltI at *
  omega
theorem cpI_neg' (a b : Int) : decide (cpI a b < 0) = decide (a < b) := by
  unfold cpI
  by_cases h : a < b
  · rw [if_pos h]; simp [h]
  · rw [if_neg h]
    split <;> simp [h]
theorem oK_full (n : Nat) : oK n n = (List.range n).map (fun i : Nat => (i : Int)) := by
  unfold oK
  apply List.map_congr_left
  intro i hi
  rw [if_pos (List.mem_range.1 hi)]
theorem spO_perm (c : Int) (ws : List Int) : (spO c ws).Perm (oK ws.length ws.length) := by
  unfold spO
  rw [isrt_eq]
  have := foldR_perm (fun x y : Int => decide (cpI (restI c ws y.toNat) (restI c ws x.toNat) < 0)) (oK ws.length ws.length) []
  rw [List.append_nil] at this
  exact (List.reverse_perm _).trans this
theorem spO_sort (c : Int) (ws : List Int) : (spO c ws).Pairwise (ltI c ws) := by
  unfold spO
  rw [isrt_eq, List.pairwise_reverse]
  refine foldR_sort _ (ltI c ws) (ltI_tr c ws) _ [] List.Pairwise.nil (fun x _ y hy => by cases hy) ?_
  rw [oK_full, List.pairwise_map]
  refine List.Pairwise.imp ?_ (List.pairwise_lt_range)
  intro y x hyx
  simp only [cpI_neg', decide_eq_true_eq, decide_eq_false_iff_not]
  unfold ltI
  simp only [Int.toNat_natCast]
  omega
instance (c : Int) (ws : List Int) (a b : Int) : Decidable (ltI c ws a b) := by unfold ltI; infer_instance
/-- In a sorted list as many come before one as stand before it. -/
theorem count_at {c : Int} {ws : List Int} {l : List Int} (hs : l.Pairwise (ltI c ws)) {k : Nat} {z : Int} (hz : l[k]? = some z) : l.countP (fun a => decide (ltI c ws a z)) = k := by
  have hk := (List.getElem?_eq_some_iff.1 hz).1
  have e : l = l.take k ++ z :: l.drop (k + 1) := by
    have h0 := List.take_append_drop k l
    rw [List.drop_eq_getElem_cons hk, (List.getElem?_eq_some_iff.1 hz).2] at h0
    exact h0.symm
  have hs2 := hs
  rw [e] at hs2
  obtain ⟨_, h2, h3⟩ := List.pairwise_append.1 hs2
  obtain ⟨h4, _⟩ := List.pairwise_cons.1 h2
  rw [e, List.countP_append, List.countP_cons]
  have a1 : (l.take k).countP (fun a => decide (ltI c ws a z)) = k := by
    rw [List.countP_eq_length.2 (fun a ha => by simpa using h3 a ha z List.mem_cons_self), List.length_take]
    omega
  have a2 : (l.drop (k + 1)).countP (fun a => decide (ltI c ws a z)) = 0 := by
    rw [List.countP_eq_zero]
    intro a ha
    simpa using ltI_as (h4 a ha)
  rw [a1, a2]
  simp [ltI_ir]
theorem mem_take {c : Int} {ws : List Int} {l : List Int} (hs : l.Pairwise (ltI c ws)) {z : Int} (hz : z ∈ l) (m : Nat) : z ∈ l.take m ↔ l.countP (fun a => decide (ltI c ws a z)) < m := by
  constructor
  · intro h
    obtain ⟨k, hk⟩ := List.getElem?_of_mem h
    have hk2 : l[k]? = some z ∧ k < m := by
      rw [List.getElem?_take] at hk
      split at hk
      · exact ⟨hk, by assumption⟩
      · cases hk
    rw [count_at hs hk2.1]
    exact hk2.2
  · intro h
    obtain ⟨k, hk⟩ := List.getElem?_of_mem hz
    rw [count_at hs hk] at h
    exact List.mem_of_getElem? (i := k) (by rw [List.getElem?_take, if_pos h]; exact hk)
theorem incs_get : ∀ (S P : List Int), S.Nodup → (∀ z ∈ S, ∃ i : Nat, i < P.length ∧ z = (i : Int)) → (S.foldl incI P).length = P.length ∧ ∀ j : Nat, j < P.length → (S.foldl incI P).getD j 0 = P.getD j 0 + (if (j : Int) ∈ S then 1 else 0)
  | [], P, _, _ => ⟨rfl, fun j _ => by simp⟩
  | z :: S, P, hn, hz => by
    obtain ⟨i, hi, rfl⟩ := hz z List.mem_cons_self
    obtain ⟨n1, n2⟩ := List.nodup_cons.1 hn
    have hl : (incI P (i : Int)).length = P.length := by simp [incI]
    obtain ⟨g1, g2⟩ := incs_get S (incI P (i : Int)) n2 (fun z hz' => by rw [hl]; exact hz z (List.mem_cons_of_mem _ hz'))
    rw [List.foldl_cons]
    refine ⟨g1.trans hl, fun j hj => ?_⟩
    rw [g2 j (by rw [hl]; exact hj)]
    have hinc : (incI P (i : Int)).getD j 0 = P.getD j 0 + (if j = i then 1 else 0) := by
      unfold incI
      rw [Int.toNat_natCast, List.getD_eq_getElem?_getD]
      by_cases e : i = j
      · subst e
        rw [List.getElem?_set_self hi, if_pos rfl]
        rfl
      · rw [List.getElem?_set_ne e, if_neg (fun q => e q.symm), ← List.getD_eq_getElem?_getD]
        omega
    rw [hinc]
    by_cases e : j = i
    · subst e
      rw [if_pos rfl, if_neg n1, if_pos List.mem_cons_self]
      omega
    · rw [if_neg e]
      have : ((j : Int) ∈ (i : Int) :: S) ↔ (j : Int) ∈ S := by
        rw [List.mem_cons]
        constructor
        · rintro (h | h)
          · exact absurd (by omega) e
          · exact h
        · exact .inr
      by_cases q : (j : Int) ∈ S
      · rw [if_pos q, if_pos (this.2 q)]; omega
      · rw [if_neg q, if_neg (fun x => q (this.1 x))]; omega
/-- Does a part come before another one? -/
def ahB (c : Int) (ws : List Int) (i k : Nat) : Bool := decide (restI c ws i < restI c ws k) || (decide (restI c ws k = restI c ws i) && decide (k < i))
def ahN (c : Int) (ws : List Int) (i : Nat) : Nat := (List.range ws.length).countP (ahB c ws i)
def rfP (c : Int) (ws : List Int) : List Int := (List.range ws.length).map fun i => flI c ws i + (if (ahN c ws i : Int) < lK c ws ws.length then 1 else 0)
theorem spP_eq {c : Int} {ws : List Int} (he : spE c ws = 0) : spP c ws = rfP c ws := by
  have hp := spO_perm c ws
  have hs := spO_sort c ws
  have hnd : (spO c ws).Nodup := hs.imp (fun {a b} h e => by subst e; exact ltI_ir _ _ _ h)
  have hin : ∀ z ∈ (spO c ws).take (lK c ws ws.length).toNat, ∃ i : Nat, i < (pK c ws ws.length).length ∧ z = (i : Int) := fun z hz => by
    rw [pK_len]
    exact oK_mem (hp.mem_iff.1 (List.mem_of_mem_take hz))
  obtain ⟨g1, g2⟩ := incs_get _ _ (hnd.sublist (List.take_sublist _ _)) hin
  have hlf := lf_bnd he
  unfold spP rfP
  apply List.ext_getElem
  · rw [g1, pK_len]; simp
  · intro i h1 h2
    have hi : i < ws.length := by rw [g1, pK_len] at h1; exact h1
    have q := g2 i (by rw [pK_len]; exact hi)
    rw [List.getD_eq_getElem?_getD, List.getElem?_eq_getElem h1] at q
    simp only [Option.getD_some] at q
    rw [q]
    simp only [List.getElem_map, List.getElem_range]
    have hpk : (pK c ws ws.length).getD i 0 = flI c ws i := by simp [pK, List.getD, hi]
    have hmem : (i : Int) ∈ spO c ws := hp.mem_iff.2 (by rw [oK_full]; exact List.mem_map.2 ⟨i, List.mem_range.2 hi, rfl⟩)
    have hcnt : (spO c ws).countP (fun a => decide (ltI c ws a i)) = ahN c ws i := by
      rw [hp.countP_eq, oK_full, List.countP_map]
      unfold ahN
      apply List.countP_congr
      intro k hk
      simp only [Function.comp_apply, ahB, Bool.or_eq_true, Bool.and_eq_true, decide_eq_true_eq]
      unfold ltI
      simp only [Int.toNat_natCast]
      omega
    rw [hpk]
    congr 1
    have hm := mem_take hs hmem (lK c ws ws.length).toNat
    rw [hcnt] at hm
    by_cases h : (i : Int) ∈ (spO c ws).take (lK c ws ws.length).toNat
    · rw [if_pos h, if_pos (by have := hm.1 h; omega)]
    · rw [if_neg h, if_neg (fun q => h (hm.2 (by omega)))]
end Go.Proofs.YtamoefnpfkcigaaDoor

/- Lists of ints compared; marked. -/
namespace Go.Proofs.YtamoefnpfkcigaaDoor
open Go.RowKit

def InqRel (l : List Int) (w : World) (i : Value) (wr : World) : Prop := ∃ k n : Nat, k ≤ l.length ∧ i = .int .i64 k ∧ wr = w.drewN n
set_option maxRecDepth 100000 in
set_option maxHeartbeats 2000000 in
theorem inEqual_c (v u : Value) (l : List Int) (w : World) (hr : RdI w v l) (hs : RdI w u l) (hn : l.length ≤ 1000000) :
    Calls Tryd.prog 10 #[v, u] w fun e w' => e = .returned (.bool true) ∧ G w w' none := by
  have HR := Lib.hid hr
  have HS := Lib.hid hs
  obtain ⟨a, cap, rfl, hcap, hm1⟩ := RdR.form hr
  obtain ⟨a2, cap2, rfl, hcap2, hm2⟩ := RdR.form hs
  clear hr hs
  have hlq : ((l.length : Int) != (l.length : Int)) = false := by simp
  go_enter Tryd.func10, Tryd.ntmps10
  go_wp2_with fail
  go_loopw [13] (InqRel l w) (fun i _ => l.length - (intOf i).toNat)
  case atStart => exact ⟨0, 0, by omega, rfl, rfl⟩
  case round =>
    obtain ⟨k, n, hk, rfl, rfl⟩ := hrel
    by_cases hlt : k < l.length
    · obtain ⟨x, hx⟩ : ∃ x, l[k]? = some x := ⟨_, List.getElem?_eq_getElem hlt⟩
      obtain ⟨bb, bo, rfl, hbb, _⟩ := RdR.elem inC_sz HR.out (G.refl w none) hx
      obtain ⟨b2, o2, rfl, hb2, _⟩ := RdR.elem inC_sz HS.out (G.refl w none) hx
      have d0 := RdR.cell inC_sz HR.out (G.refl w none) hx 0 (.int .i64 x) rfl
      have e0 := RdR.cell inC_sz HS.out (G.refl w none) hx 0 (.int .i64 x) rfl
      simp only [Nat.add_zero, Nat.mul_one] at d0 e0
      have hxx : (x != x) = false := by simp
      clear hx
      go_wp2_with fail
      go_quiet (fail)
      go_wp2_with fail
      go_roundw
      case rel => exact ⟨k + 1, _, by omega, by go_num, rfl⟩
      case measure => simp [intOf]; omega
    · obtain rfl : k = l.length := by omega
      go_wp2_with fail
      go_ret
      exact ⟨rfl, (G.refl _ _).drewN _⟩
theorem sp311 : spE 3 [1, 1] = 0 ∧ spP 3 [1, 1] = [2, 1] := by decide +kernel
set_option maxRecDepth 100000 in
set_option maxHeartbeats 2000000 in
theorem marked_c (w : World) : Calls Tryd.prog 15 #[] w fun e w' => e = .returned (.bool true) ∧ G w w' none := by
  go_enter Tryd.func15, Tryd.ntmps15
  go_wp2_with fail
  refine (split_c 3 _ [1, 1] _ (Rd.new (T := 3) #[.int .i64 1, .int .i64 1] rfl (by show 2 ≤ maxLen; decide)) (by simp)).mono ?_; rintro e w1 ⟨v, rfl, hR, hG1⟩
  rw [if_pos sp311.1, sp311.2] at hR
  rw [sp311.1]
  have hG := ((G.refl w none).alloc (.cells #[.int .i64 1, .int .i64 1] 3)).trans hG1
  obtain ⟨a, c, rfl, -, -⟩ := RdR.form hR
  have hR2 := Rd.quiet hR ((G.refl w1 none).alloc (.cells #[.int .i64 2, .int .i64 1] 3))
  go_wp2_with fail
  refine (inEqual_c _ _ [2, 1] _ hR2 (Rd.new (T := 3) #[.int .i64 2, .int .i64 1] rfl (by show 2 ≤ maxLen; decide)) (by simp)).mono ?_; rintro e w2 ⟨rfl, hh⟩
  go_wp2_with fail
  go_ret
  exact ⟨rfl, (hG.alloc _).trans hh⟩
end Go.Proofs.YtamoefnpfkcigaaDoor

/- rentref2.SplitOf. Written by genspo.py. -/
namespace Go.Proofs.YtamoefnpfkcigaaDoor
open Go.RowKit

set_option maxRecDepth 100000 in
theorem flag_c (b : Bool) (w : World) : Calls Tryd.prog 46 #[.bool b] w fun e w' => e = .returned (.int .i64 (if b = true then 1 else 0)) ∧ w = w' := by
  cases b
  all_goals
    go_enter Tryd.func46, Tryd.ntmps46
    go_wp2_with fail
    go_ret
    exact ⟨rfl, rfl⟩
def fK (c : Int) (ws : List Int) (k : Nat) : List Int := (List.range k).map (flI c ws)
theorem fK_step (c : Int) (ws : List Int) (k : Nat) : fK c ws (k + 1) = fK c ws k ++ [flI c ws k] := by
  unfold fK
  rw [List.range_succ, List.map_append]
  rfl
theorem fK_len (c : Int) (ws : List Int) (k : Nat) : (fK c ws k).length = k := by simp [fK]
def oneI (c : Int) (ws : List Int) (i : Nat) : Int := if (ahN c ws i : Int) < lK c ws ws.length then 1 else 0
def mK (c : Int) (ws : List Int) (k : Nat) : List Int := (List.range ws.length).map fun i => flI c ws i + (if i < k then oneI c ws i else 0)
theorem mK_len (c : Int) (ws : List Int) (k : Nat) : (mK c ws k).length = ws.length := by simp [mK]
theorem mK_0 (c : Int) (ws : List Int) : fK c ws ws.length = mK c ws 0 := by
  apply List.ext_getElem <;> simp [mK, fK]
theorem mK_all (c : Int) (ws : List Int) : mK c ws ws.length = rfP c ws := by
  unfold mK rfP
  apply List.map_congr_left
  intro i hi
  rw [if_pos (List.mem_range.1 hi)]
  rfl
theorem mK_step (c : Int) (ws : List Int) (k : Nat) : (mK c ws k).set k (flI c ws k + oneI c ws k) = mK c ws (k + 1) := by
  apply List.ext_getElem
  · simp [mK]
  · intro i h1 h2
    simp only [mK, List.getElem_set, List.getElem_map, List.getElem_range]
    by_cases h : k = i
    · rw [if_pos h, if_pos (by omega), h]
    · rw [if_neg h]
      by_cases q : i < k
      · rw [if_pos q, if_pos (by omega)]
      · rw [if_neg q, if_neg (by omega)]
def acN (c : Int) (ws : List Int) (i k : Nat) : Nat := (List.range k).countP (ahB c ws i)
theorem acN_step (c : Int) (ws : List Int) (i k : Nat) : acN c ws i (k + 1) = acN c ws i k + (if ahB c ws i k = true then 1 else 0) := by
  unfold acN
  rw [List.range_succ, List.countP_append, List.countP_singleton]
theorem acN_le (c : Int) (ws : List Int) (i k : Nat) : acN c ws i k ≤ k := by
  unfold acN
  have := List.countP_le_length (p := ahB c ws i) (l := List.range k)
  rwa [List.length_range] at this
def So1 (w : World) (ws : List Int) (s5 i : Value) (wr : World) : Prop := ∃ k : Nat, k ≤ ws.length ∧ i = .int .i64 k ∧ s5 = .int .i64 (ws.take k).sum ∧ w = wr
def So2 (w : World) (c : Int) (ws : List Int) (s8 s9 i : Value) (wr : World) : Prop := ∃ k : Nat, k ≤ ws.length ∧ i = .int .i64 k ∧ s9 = .int .i64 (lK c ws k) ∧ OwnIn wr w.heap.size s8 (fK c ws k) ∧ G w wr none
def So3 (w : World) (c : Int) (ws : List Int) (v : Value) (i : Value) (wr : World) : Prop := ∃ k : Nat, k ≤ ws.length ∧ i = .int .i64 k ∧ OwnIn wr w.heap.size v (mK c ws k) ∧ G w wr none
def So4 (w : World) (c : Int) (ws : List Int) (i : Nat) (s14 s61 : Value) (wr : World) : Prop := ∃ k : Nat, k ≤ ws.length ∧ s61 = .int .i64 k ∧ s14 = .int .i64 (acN c ws i k) ∧ G w wr none
theorem mK_at (c : Int) (ws : List Int) {i : Nat} (h : i < ws.length) : (mK c ws i)[i]? = some (flI c ws i) := by
  unfold mK
  rw [List.getElem?_map, List.getElem?_range h]
  simp
theorem ws_at {c : Int} {ws : List Int} (he : spE c ws = 0) {k : Nat} {p : Int} (hp : ws[k]? = some p) : (0 ≤ c * p ∧ c * p ≤ 5761440000000000) ∧ 0 < ws.sum ∧ flI c ws k = c * p / ws.sum ∧ restI c ws k = c * p % ws.sum := by
  obtain ⟨h1, h2, h3, h4⟩ := spE_ok he
  have hpb : 0 ≤ p ∧ p ≤ 5761440 := by have := h3 p (List.mem_of_getElem? hp); unfold inB at this; simpa using this
  have hsb := (spA_bnd h3)
  have hp1 : 0 ≤ c * p := Int.mul_nonneg h1.1 hpb.1
  have hp2 : c * p ≤ 1000000000 * 5761440 := Int.mul_le_mul h1.2 hpb.2 hpb.1 (by omega)
  refine ⟨⟨hp1, by omega⟩, by omega, ?_, ?_⟩
  · unfold flI; rw [List.getD_eq_getElem?_getD, hp]; rfl
  · unfold restI; rw [List.getD_eq_getElem?_getD, hp]; rfl
set_option maxRecDepth 100000 in
set_option maxHeartbeats 8000000 in
theorem splitOf_c (c : Int) (v : Value) (ws : List Int) (w : World) (hr : RdI w v ws) (he : spE c ws = 0) :
    Calls Tryd.prog 11 #[.int .i64 c, v] w fun e w' => ∃ v', e = .returned v' ∧ RdI w' v' (rfP c ws) ∧ G w w' none := by
  obtain ⟨a, cap, rfl, hcap, hm⟩ := RdR.form hr
  have HR := Lib.hid hr
  have HE := Lib.hid he
  obtain ⟨h1, h2, h3, h4⟩ := spE_ok he
  have H3 := Lib.hid h3
  obtain ⟨RF, hRF⟩ : ∃ RF, rfP c ws = RF := ⟨_, rfl⟩
  have HRF := Lib.hid hRF
  rw [hRF]
  clear hRF hr he h1 h3 h4
  go_enter Tryd.func11, Tryd.ntmps11
  go_wp2_with fail
  go_loopw [5, 21] (So1 w ws) (fun _ i _ => ws.length - (intOf i).toNat)
  case atStart => exact ⟨0, by omega, rfl, rfl, rfl⟩
  case round =>
    obtain ⟨k, hk, rfl, rfl, rfl⟩ := hrel
    by_cases hlt : k < ws.length
    · obtain ⟨p, hp⟩ : ∃ p, ws[k]? = some p := ⟨_, List.getElem?_eq_getElem hlt⟩
      obtain ⟨bb, bo, rfl, -, -⟩ := RdR.elem inC_sz HR.out (G.refl _ none) hp
      have hc := RdR.cell inC_sz HR.out (G.refl _ none) hp 0 (.int .i64 p) rfl
      simp only [Nat.add_zero, Nat.mul_one] at hc
      have hsb := spA_bnd (fun n (hn : n ∈ ws.take k) => H3.out n (List.mem_of_mem_take hn))
      have hpb : 0 ≤ p ∧ p ≤ 5761440 := by have := H3.out p (List.mem_of_getElem? hp); unfold inB at this; simpa using this
      have hlen : ((ws.take k).length : Int) ≤ 50 := by rw [List.length_take]; omega
      have hw : IntKind.i64.wrap ((ws.take k).sum + p) = (ws.take k).sum + p := by rw [IntKind.wrap_i64]; omega
      have HT := Lib.hid (sum_take_succ ws k p hp)
      generalize (ws.take k).sum = SK at hw HT hsb ⊢
      have HK := Lib.hid hlt
      clear hsb hlen hp
      go_wp2_with fail
      go_roundw
      case rel => exact ⟨k + 1, by omega, by go_num, by rw [HT.out], rfl⟩
      case measure => have := HK.out; simp [intOf]; omega
    · obtain rfl : k = ws.length := by omega
      rw [List.take_length]
      go_wp2_with fail
      go_loopw [8, 9, 32] (So2 w c ws) (fun _ _ i _ => ws.length - (intOf i).toNat)
      case atStart => exact ⟨0, by omega, rfl, by rw [show lK c ws 0 = c by simp [lK]], World.ownsRow_nil _ _ _ _, G.refl _ _⟩
      case round =>
        obtain ⟨k, hk, rfl, rfl, hown, hG⟩ := hrel
        by_cases hlt : k < ws.length
        · obtain ⟨p, hp⟩ : ∃ p, ws[k]? = some p := ⟨_, List.getElem?_eq_getElem hlt⟩
          obtain ⟨⟨p1, p2⟩, s0, hfl, -⟩ := ws_at HE.out hp
          obtain ⟨bb, bo, rfl, -, -⟩ := RdR.elem inC_sz HR.out hG hp
          have hc := RdR.cell inC_sz HR.out hG hp 0 (.int .i64 p) rfl
          simp only [Nat.add_zero, Nat.mul_one] at hc
          have hfb := fl_bnd HE.out k
          have hlb := lK_bnd HE.out k (by omega)
          have HST := Lib.hid (lK_step c ws k)
          have HFS := Lib.hid (fK_step c ws k)
          obtain ⟨fl, hfl2⟩ : ∃ fl, flI c ws k = fl := ⟨_, rfl⟩
          rw [hfl2] at hfl hfb HST HFS
          clear hfl2 hp
          generalize ws.sum = s at hfl s0 ⊢
          obtain ⟨m, hm2⟩ : ∃ m, c * p = m := ⟨_, rfl⟩
          have hw1 : IntKind.i64.wrap (c * p) = m := by rw [hm2, IntKind.wrap_i64]; omega
          rw [hm2] at p1 p2 hfl
          have htd : m.tdiv s = fl := by rw [Int.tdiv_eq_ediv_of_nonneg p1, hfl]
          have hed : m / s = fl := hfl.symm
          have hwf : IntKind.i64.wrap fl = fl := by rw [IntKind.wrap_i64]; omega
          have hwl : IntKind.i64.wrap (lK c ws k - fl) = lK c ws (k + 1) := by rw [HST.out, IntKind.wrap_i64]; omega
          have hsn : ¬ s = 0 := by omega
          have HK := Lib.hid hlt
          have hln : (fK c ws k).length ≤ 1000 := by rw [fK_len]; omega
          have hownA := OwnX.alloc hown (.cells #[.int .i64 fl] 3)
          have hsz := hG.size
          have hob := OwnX.low hown
          clear hfb hlb hm2 hfl hlt
          go_wp2_with (at_builtin; refine wpList_plain rfl fun K' hK' => wp_append_x in_rowOk _ _ rfl w.heap.size u8 (fK c ws k) rfl hownA wr.heap.size fl rfl (Bk.new wr _ _) hln (by simp; omega) ?_; intro v8 w8 hown8 hgrow; refine hK' _ _ ?_)
          go_roundw
          case rel => exact ⟨k + 1, by omega, by go_num, rfl, by rw [HFS.out]; exact hown8, (hG.alloc _).other hgrow (fun r e => .inl (hob r e))⟩
          case measure => have := HK.out; simp [intOf]; omega
        · obtain rfl : k = ws.length := by omega
          rw [mK_0] at hown
          obtain ⟨L, hL⟩ : ∃ L, lK c ws ws.length = L := ⟨_, rfl⟩
          have HLE := Lib.hid hL
          rw [hL]
          clear hL
          go_wp2_with fail
          go_loopw [54] (So3 w c ws u8) (fun i _ => ws.length - (intOf i).toNat)
          case atStart => exact ⟨0, by omega, rfl, hown, hG⟩
          case round =>
            clear hown hG
            obtain ⟨i, hi, rfl, hown, hG⟩ := hrel
            by_cases hlt2 : i < ws.length
            · obtain ⟨p, hp⟩ : ∃ p, ws[i]? = some p := ⟨_, List.getElem?_eq_getElem hlt2⟩
              obtain ⟨⟨p1, p2⟩, s0, -, hri⟩ := ws_at HE.out hp
              obtain ⟨bb, bo, rfl, -, -⟩ := RdR.elem inC_sz HR.out hG hp
              have hc := RdR.cell inC_sz HR.out hG hp 0 (.int .i64 p) rfl
              simp only [Nat.add_zero, Nat.mul_one] at hc
              have HI := Lib.hid hlt2
              have HP := Lib.hid (And.intro p1 (And.intro p2 (And.intro s0 hri)))
              have HOWN := Lib.hid hown
              clear hp p1 p2 s0 hri hown
              go_wp2_with fail
              clear hc
              obtain ⟨w3, rfl⟩ : ∃ w3, w3 = wr := ⟨_, rfl⟩
              go_loopw [14, 61] (So4 w3 c ws i) (fun _ j _ => ws.length - (intOf j).toNat)
              case atStart => exact ⟨0, by omega, rfl, by simp [acN], G.refl _ _⟩
              case round =>
                obtain ⟨k, hk, rfl, rfl, hG4⟩ := hrel
                by_cases hltk : k < ws.length
                · obtain ⟨q, hq⟩ : ∃ q, ws[k]? = some q := ⟨_, List.getElem?_eq_getElem hltk⟩
                  obtain ⟨⟨q1, q2⟩, s0, -, hrk⟩ := ws_at HE.out hq
                  obtain ⟨p1, p2, -, hri⟩ := HP.out
                  have hck := RdR.cell inC_sz HR.out (hG.trans hG4) hq 0 (.int .i64 q) rfl
                  simp only [Nat.add_zero, Nat.mul_one] at hck
                  have hac := acN_le c ws i k
                  have HST := Lib.hid (acN_step c ws i k)
                  have HAB : Hid (ahB c ws i k = (decide (restI c ws i < restI c ws k) || (decide (restI c ws k = restI c ws i) && decide (k < i)))) := Lib.hid rfl
                  have HL : Hid (ws.length ≤ 50) := Lib.hid (by omega)
                  obtain ⟨A, hA⟩ : ∃ A, acN c ws i k = A := ⟨_, rfl⟩
                  obtain ⟨ra, hra⟩ : ∃ ra, restI c ws i = ra := ⟨_, rfl⟩
                  obtain ⟨rb, hrb⟩ : ∃ rb, restI c ws k = rb := ⟨_, rfl⟩
                  rw [hA] at hac HST
                  rw [hra] at hri HAB
                  rw [hrb] at hrk HAB
                  rw [hA]
                  clear hA hra hrb hq
                  have hsb := spA_bnd H3.out
                  generalize ws.sum = s at hri hrk s0 hsb ⊢
                  obtain ⟨m1, hm1⟩ : ∃ m, c * p = m := ⟨_, rfl⟩
                  obtain ⟨m2, hm2⟩ : ∃ m, c * q = m := ⟨_, rfl⟩
                  have hw1 : IntKind.i64.wrap (c * p) = m1 := by rw [hm1, IntKind.wrap_i64]; omega
                  have hw2 : IntKind.i64.wrap (c * q) = m2 := by rw [hm2, IntKind.wrap_i64]; omega
                  rw [hm1] at p1 p2 hri
                  rw [hm2] at q1 q2 hrk
                  have ht1 : m1.tmod s = ra := by rw [Int.tmod_eq_emod_of_nonneg p1, hri]
                  have ht2 : m2.tmod s = rb := by rw [Int.tmod_eq_emod_of_nonneg q1, hrk]
                  have hx1 : IntKind.i64.wrap ra = ra := by have u1 := Int.emod_nonneg m1 (show s ≠ 0 by omega); have u2 := Int.emod_lt_of_pos m1 s0; rw [IntKind.wrap_i64]; omega
                  have hx2 : IntKind.i64.wrap rb = rb := by have u1 := Int.emod_nonneg m2 (show s ≠ 0 by omega); have u2 := Int.emod_lt_of_pos m2 s0; rw [IntKind.wrap_i64]; omega
                  have hsn : ¬ s = 0 := by omega
                  have hwA : IntKind.i64.wrap ((A : Int) + 1) = (A : Int) + 1 := by have := HL.out; rw [IntKind.wrap_i64]; omega
                  have hwB : IntKind.i64.wrap (A : Int) = (A : Int) := by have := HL.out; rw [IntKind.wrap_i64]; omega
                  have HK2 := Lib.hid hltk
                  have hltI : (k : Int) < (ws.length : Int) := by omega
                  clear hm1 hm2 p1 p2 q1 q2 hri hrk s0 hac hsb
                  go_upto_region 22 with fail
                  refine wp_region_held_drew (S := (fun _ : World => True)) (by kernel_rfl) ?_ (fun hHeld => ?_)
                  · exact trivial
                  refine wpAnyH_take (i := 0) (oi := { dst := some 66, op := Op.move (Operand.tmp 0), type := 3, pos := _, after := #[], guard := none }) (v := ?_) rfl (by kernel_rfl) (by kernel_rfl) (by kernel_rfl) (fun _ _ _ h => h) (Or.inl ⟨by rfl, ?_⟩) (by assumption) ?_
                  rotate_left
                  · (intro w hSw; clear hSw; (go_simp <;> with_reducible rfl))
                  try simp only [Act.put, List.setIfInBounds_toArray, List.set_cons_zero, List.set_cons_succ]
                  refine wpAnyH_take (i := 1) (oi := { dst := some 67, op := Op.move (Operand.tmp 16), type := 3, pos := _, after := #[], guard := none }) (v := ?_) rfl (by kernel_rfl) (by kernel_rfl) (by kernel_rfl) (fun _ _ _ h => h) (Or.inl ⟨by rfl, ?_⟩) (by assumption) ?_
                  rotate_left
                  · (intro w hSw; clear hSw; (go_simp <;> with_reducible rfl))
                  try simp only [Act.put, List.setIfInBounds_toArray, List.set_cons_zero, List.set_cons_succ]
                  refine wpAnyH_take (i := 2) (oi := { dst := some 68, op := Op.binOp BinOp.mul 3 (Operand.tmp 66) (Operand.tmp 67) 3, type := 3, pos := _, after := #[{ on := 0, ground := Ground.data }, { on := 1, ground := Ground.data }], guard := none }) (v := ?_) rfl (by kernel_rfl) (by kernel_rfl) (by kernel_rfl) (fun _ _ _ h => h) (Or.inl ⟨by rfl, ?_⟩) (by assumption) ?_
                  rotate_left
                  · (intro w hSw; clear hSw; (go_simp <;> with_reducible rfl))
                  try simp only [Act.put, List.setIfInBounds_toArray, List.set_cons_zero, List.set_cons_succ]
                  refine wpAnyH_take (i := 3) (oi := { dst := some 69, op := Op.move (Operand.tmp 5), type := 3, pos := _, after := #[], guard := none }) (v := ?_) rfl (by kernel_rfl) (by kernel_rfl) (by kernel_rfl) (fun _ _ _ h => h) (Or.inl ⟨by rfl, ?_⟩) (by assumption) ?_
                  rotate_left
                  · (intro w hSw; clear hSw; (go_simp <;> with_reducible rfl))
                  try simp only [Act.put, List.setIfInBounds_toArray, List.set_cons_zero, List.set_cons_succ]
                  refine wpAnyH_take (i := 4) (oi := { dst := some 70, op := Op.binOp BinOp.rem 3 (Operand.tmp 68) (Operand.tmp 69) 3, type := 3, pos := _, after := #[{ on := 2, ground := Ground.data }, { on := 3, ground := Ground.data }], guard := none }) (v := ?_) rfl (by kernel_rfl) (by kernel_rfl) (by kernel_rfl) (fun _ _ _ h => h) (Or.inl ⟨by rfl, ?_⟩) (by assumption) ?_
                  rotate_left
                  · (intro w hSw; clear hSw; (go_simp <;> with_reducible rfl))
                  try simp only [Act.put, List.setIfInBounds_toArray, List.set_cons_zero, List.set_cons_succ]
                  refine wpAnyH_take (i := 5) (oi := { dst := some 71, op := Op.move (Operand.tmp 0), type := 3, pos := _, after := #[{ on := 10, ground := Ground.gcOnly Departure.lateStores }], guard := none }) (v := ?_) rfl (by kernel_rfl) (by kernel_rfl) (by kernel_rfl) (fun _ _ _ h => h) (Or.inl ⟨by rfl, ?_⟩) (by assumption) ?_
                  rotate_left
                  · (intro w hSw; clear hSw; (go_simp <;> with_reducible rfl))
                  try simp only [Act.put, List.setIfInBounds_toArray, List.set_cons_zero, List.set_cons_succ]
                  refine wpAnyH_take (i := 6) (oi := { dst := some 72, op := Op.move (Operand.tmp 13), type := 3, pos := _, after := #[{ on := 10, ground := Ground.gcOnly Departure.lateStores }], guard := none }) (v := ?_) rfl (by kernel_rfl) (by kernel_rfl) (by kernel_rfl) (fun _ _ _ h => h) (Or.inl ⟨by rfl, ?_⟩) (by assumption) ?_
                  rotate_left
                  · (intro w hSw; clear hSw; (go_simp <;> with_reducible rfl))
                  try simp only [Act.put, List.setIfInBounds_toArray, List.set_cons_zero, List.set_cons_succ]
                  refine wpAnyH_take (i := 7) (oi := { dst := some 73, op := Op.binOp BinOp.mul 3 (Operand.tmp 71) (Operand.tmp 72) 3, type := 3, pos := _, after := #[{ on := 5, ground := Ground.data }, { on := 6, ground := Ground.data }, { on := 10, ground := Ground.gcOnly Departure.lateStores }], guard := none }) (v := ?_) rfl (by kernel_rfl) (by kernel_rfl) (by kernel_rfl) (fun _ _ _ h => h) (Or.inl ⟨by rfl, ?_⟩) (by assumption) ?_
                  rotate_left
                  · (intro w hSw; clear hSw; (go_simp <;> with_reducible rfl))
                  try simp only [Act.put, List.setIfInBounds_toArray, List.set_cons_zero, List.set_cons_succ]
                  refine wpAnyH_take (i := 8) (oi := { dst := some 74, op := Op.move (Operand.tmp 5), type := 3, pos := _, after := #[{ on := 10, ground := Ground.gcOnly Departure.lateStores }], guard := none }) (v := ?_) rfl (by kernel_rfl) (by kernel_rfl) (by kernel_rfl) (fun _ _ _ h => h) (Or.inl ⟨by rfl, ?_⟩) (by assumption) ?_
                  rotate_left
                  · (intro w hSw; clear hSw; (go_simp <;> with_reducible rfl))
                  try simp only [Act.put, List.setIfInBounds_toArray, List.set_cons_zero, List.set_cons_succ]
                  refine wpAnyH_take (i := 9) (oi := { dst := some 75, op := Op.binOp BinOp.rem 3 (Operand.tmp 73) (Operand.tmp 74) 3, type := 3, pos := _, after := #[{ on := 7, ground := Ground.data }, { on := 8, ground := Ground.data }, { on := 10, ground := Ground.gcOnly Departure.lateStores }], guard := none }) (v := ?_) rfl (by kernel_rfl) (by kernel_rfl) (by kernel_rfl) (fun _ _ _ h => h) (Or.inl ⟨by rfl, ?_⟩) (by assumption) ?_
                  rotate_left
                  · (intro w hSw; clear hSw; (go_simp <;> with_reducible rfl))
                  try simp only [Act.put, List.setIfInBounds_toArray, List.set_cons_zero, List.set_cons_succ]
                  refine wpAnyH_take (i := 10) (oi := { dst := some 17, op := Op.assign (Operand.tmp 70), type := 3, pos := _, after := #[{ on := 4, ground := Ground.data }, { on := 0, ground := Ground.phase }, { on := 1, ground := Ground.phase }, { on := 2, ground := Ground.phase }, { on := 3, ground := Ground.phase }, { on := 4, ground := Ground.phase }, { on := 5, ground := Ground.textOnly Departure.lateStores }, { on := 6, ground := Ground.textOnly Departure.lateStores }, { on := 7, ground := Ground.textOnly Departure.lateStores }, { on := 8, ground := Ground.textOnly Departure.lateStores }, { on := 9, ground := Ground.textOnly Departure.lateStores }], guard := none }) (v := ?_) rfl (by kernel_rfl) (by kernel_rfl) (by kernel_rfl) (fun _ _ _ h => h) (Or.inl ⟨by rfl, ?_⟩) (by assumption) ?_
                  rotate_left
                  · (intro w hSw; clear hSw; (go_simp <;> with_reducible rfl))
                  try simp only [Act.put, List.setIfInBounds_toArray, List.set_cons_zero, List.set_cons_succ]
                  refine wpAnyH_take (i := 11) (oi := { dst := some 18, op := Op.assign (Operand.tmp 75), type := 3, pos := _, after := #[{ on := 9, ground := Ground.data }, { on := 10, ground := Ground.chain }, { on := 0, ground := Ground.phase }, { on := 1, ground := Ground.phase }, { on := 2, ground := Ground.phase }, { on := 3, ground := Ground.phase }, { on := 4, ground := Ground.phase }, { on := 5, ground := Ground.phase }, { on := 6, ground := Ground.phase }, { on := 7, ground := Ground.phase }, { on := 8, ground := Ground.phase }, { on := 9, ground := Ground.phase }, { on := 10, ground := Ground.phase }], guard := none }) (v := ?_) rfl (by kernel_rfl) (by kernel_rfl) (by kernel_rfl) (fun _ _ _ h => h) (Or.inl ⟨by rfl, ?_⟩) (by assumption) ?_
                  rotate_left
                  · (intro w hSw; clear hSw; (go_simp <;> with_reducible rfl))
                  try simp only [Act.put, List.setIfInBounds_toArray, List.set_cons_zero, List.set_cons_succ]
                  refine wpAnyH_done (by kernel_rfl) ?_ _
                  generalize hwd : wr.drew = wd at hHeld ⊢
                  have hG5 : G w3 wd none := by rw [← hwd]; exact hG4.drew
                  clear hwd hHeld hG4 hck hw1 hw2 ht1 ht2 hx1 hx2
                  by_cases e1 : ra < rb
                  · have HN : Hid (((acN c ws i (k + 1) : Nat) : Int) = (A : Int) + 1) := Lib.hid (by rw [HST.out, HAB.out]; simp [e1])
                    go_wp2_with fail
                    refine (flag_c _ _).mono ?_
                    rintro e w' ⟨rfl, rfl⟩
                    go_wp2_with fail
                    go_roundw
                    case rel => exact ⟨k + 1, (by have := HK2.out; omega), by go_num, (by rw [HN.out]), hG5⟩
                    case measure => have := HK2.out; simp [intOf]; omega
                  · by_cases e2 : rb = ra
                    · by_cases e3 : k < i
                      · have e4 : (k : Int) < (i : Int) := by omega
                        have HN : Hid (((acN c ws i (k + 1) : Nat) : Int) = (A : Int) + 1) := Lib.hid (by rw [HST.out, HAB.out]; simp [e1, e2, e3])
                        go_wp2_with fail
                        refine (flag_c _ _).mono ?_
                        rintro e w' ⟨rfl, rfl⟩
                        go_wp2_with fail
                        go_roundw
                        case rel => exact ⟨k + 1, (by have := HK2.out; omega), by go_num, (by rw [HN.out]), hG5⟩
                        case measure => have := HK2.out; simp [intOf]; omega
                      · have e4 : ¬ (k : Int) < (i : Int) := by omega
                        have HN : Hid (((acN c ws i (k + 1) : Nat) : Int) = (A : Int)) := Lib.hid (by rw [HST.out, HAB.out]; simp [e1, e2, e3])
                        go_wp2_with fail
                        refine (flag_c _ _).mono ?_
                        rintro e w' ⟨rfl, rfl⟩
                        go_wp2_with fail
                        go_roundw
                        case rel => exact ⟨k + 1, (by have := HK2.out; omega), by go_num, (by rw [HN.out]), hG5⟩
                        case measure => have := HK2.out; simp [intOf]; omega
                    · have HN : Hid (((acN c ws i (k + 1) : Nat) : Int) = (A : Int)) := Lib.hid (by rw [HST.out, HAB.out]; simp [e1, e2])
                      go_wp2_with fail
                      refine (flag_c _ _).mono ?_
                      rintro e w' ⟨rfl, rfl⟩
                      go_wp2_with fail
                      go_roundw
                      case rel => exact ⟨k + 1, (by have := HK2.out; omega), by go_num, (by rw [HN.out]), hG5⟩
                      case measure => have := HK2.out; simp [intOf]; omega
                · obtain rfl : k = ws.length := by omega
                  have HAN : Hid (acN c ws i ws.length = ahN c ws i) := Lib.hid rfl
                  have hown := HOWN.out
                  obtain ⟨g, cap', cur, e, -⟩ := OwnX.form0 hown (by rw [mK_len]; have := HI.out; omega)
                  rw [mK_len] at e
                  subst e
                  have hob := OwnX.low hown g rfl
                  have hown5 := OwnX.drew (OwnX.quiet hown hG4)
                  have hG5 := (hG.trans hG4).drew
                  have hmi := mK_at c ws HI.out
                  have hfb := fl_bnd HE.out i
                  have HS1 := Lib.hid (mK_step c ws i)
                  have hiI : (i : Int) < (ws.length : Int) := by have := HI.out; omega
                  obtain ⟨fl, hfl⟩ : ∃ fl, flI c ws i = fl := ⟨_, rfl⟩
                  obtain ⟨A, hA⟩ : ∃ A, acN c ws i ws.length = A := ⟨_, rfl⟩
                  have HONE : Hid (oneI c ws i = if (A : Int) < L then 1 else 0) := Lib.hid (by unfold oneI; rw [← HAN.out, hA, HLE.out])
                  rw [hfl] at hmi hfb HS1
                  rw [hA]
                  have hwA : IntKind.i64.wrap (fl + 1) = fl + 1 := by rw [IntKind.wrap_i64]; omega
                  have hwB : IntKind.i64.wrap fl = fl := by rw [IntKind.wrap_i64]; omega
                  clear hfl hA hfb
                  go_upto_region 25 with fail
                  obtain ⟨w5, hw5⟩ : ∃ w5, wr.drew = w5 := ⟨_, rfl⟩
                  rw [hw5] at hown5 hG5
                  have z0 : w5.cell? ⟨g, i, none⟩ = some (.int .i64 fl) := by have := RdR.cell inC_sz (Rd.of_owns hown5) (G.refl _ none) hmi 0 (.int .i64 fl) rfl; simpa using this
                  have z3 : w5.frozen? ⟨g, i, none⟩ = false := soi_free hown5 (mK_len _ _ _) _
                  have hownA := fun y => soi_set hown5 (mK_len _ _ _) hmi y
                  have hGA := fun y => hG5.other (grownBy_setCell_row w5 ⟨g, i, none⟩ y) (fun r e => .inl (by cases e; exact hob))
                  by_cases hq : (A : Int) < L
                  · have hownN := hownA (fl + 1)
                    have hGN := hGA (.int .i64 (fl + 1))
                    rw [show (mK c ws i).set i (fl + 1) = mK c ws (i + 1) by rw [← HS1.out, HONE.out, if_pos hq]] at hownN
                    clear hownA hGA hown5 hG5 hmi hown hG hG4
                    refine wp_region_held_drew (S := (fun _ : World => True)) (by kernel_rfl) ?_ (fun hHeld => ?_)
                    · exact trivial
                    rw [hw5]
                    clear hw5
                    refine wpAnyH_take (i := 0) (oi := { dst := some 93, op := Op.move (Operand.tmp 8), type := 22, pos := _, after := #[], guard := none }) (v := ?_) rfl (by kernel_rfl) (by kernel_rfl) (by kernel_rfl) (fun _ _ _ h => h) (Or.inl ⟨by rfl, ?_⟩) (by assumption) ?_
                    rotate_left
                    · (intro w hSw; clear hSw; (go_simp <;> with_reducible rfl))
                    try simp only [Act.put, List.setIfInBounds_toArray, List.set_cons_zero, List.set_cons_succ]
                    refine wpAnyH_take (i := 1) (oi := { dst := some 94, op := Op.move (Operand.tmp 12), type := 3, pos := _, after := #[], guard := none }) (v := ?_) rfl (by kernel_rfl) (by kernel_rfl) (by kernel_rfl) (fun _ _ _ h => h) (Or.inl ⟨by rfl, ?_⟩) (by assumption) ?_
                    rotate_left
                    · (intro w hSw; clear hSw; (go_simp <;> with_reducible rfl))
                    try simp only [Act.put, List.setIfInBounds_toArray, List.set_cons_zero, List.set_cons_succ]
                    refine wpAnyH_take (i := 2) (oi := { dst := some 95, op := Op.indexAddr 22 (Operand.tmp 93) (Operand.tmp 94), type := 0, pos := _, after := #[{ on := 0, ground := Ground.data }, { on := 1, ground := Ground.data }], guard := none }) (v := ?_) rfl (by kernel_rfl) (by kernel_rfl) (by kernel_rfl) (fun _ _ _ h => h) (Or.inl ⟨by rfl, ?_⟩) (by assumption) ?_
                    rotate_left
                    · (intro w hSw; clear hSw; (go_simp <;> with_reducible rfl))
                    try simp only [Act.put, List.setIfInBounds_toArray, List.set_cons_zero, List.set_cons_succ]
                    refine wpAnyH_take (i := 4) (oi := { dst := some 97, op := Op.move (Operand.tmp 14), type := 3, pos := _, after := #[], guard := none }) (v := ?_) rfl (by kernel_rfl) (by kernel_rfl) (by kernel_rfl) (fun _ _ _ h => h) (Or.inl ⟨by rfl, ?_⟩) (by assumption) ?_
                    rotate_left
                    · (intro w hSw; clear hSw; (go_simp <;> with_reducible rfl))
                    try simp only [Act.put, List.setIfInBounds_toArray, List.set_cons_zero, List.set_cons_succ]
                    refine wpAnyH_take (i := 5) (oi := { dst := some 98, op := Op.move (Operand.tmp 9), type := 3, pos := _, after := #[], guard := none }) (v := ?_) rfl (by kernel_rfl) (by kernel_rfl) (by kernel_rfl) (fun _ _ _ h => h) (Or.inl ⟨by rfl, ?_⟩) (by assumption) ?_
                    rotate_left
                    · (intro w hSw; clear hSw; (go_simp <;> with_reducible rfl))
                    try simp only [Act.put, List.setIfInBounds_toArray, List.set_cons_zero, List.set_cons_succ]
                    refine wpAnyH_take (i := 6) (oi := { dst := some 99, op := Op.binOp BinOp.lss 3 (Operand.tmp 97) (Operand.tmp 98) 3, type := 4, pos := _, after := #[{ on := 4, ground := Ground.data }, { on := 5, ground := Ground.data }], guard := none }) (v := ?_) rfl (by kernel_rfl) (by kernel_rfl) (by kernel_rfl) (fun _ _ _ h => h) (Or.inl ⟨by rfl, ?_⟩) (by assumption) ?_
                    rotate_left
                    · (intro w hSw; clear hSw; (go_simp <;> with_reducible rfl))
                    try simp only [Act.put, List.setIfInBounds_toArray, List.set_cons_zero, List.set_cons_succ]
                    refine wpAnyH_ready (rs := [3, 7]) (by kernel_rfl) (by simp) ?_
                    refine (AllReadyH.cons (o := { dst := some 96, op := Op.load 3 (Operand.tmp 95), type := 3, pos := _, after := #[{ on := 2, ground := Ground.data }], guard := none }) rfl (fun K hK => ?_) (AllReadyH.cons (o := { dst := some 100, op := Op.call { callee := Callee.value (Operand.func 46), args := #[Operand.tmp 99], argTypes := #[4] }, type := 3, pos := _, after := #[{ on := 6, ground := Ground.data }], guard := none }) rfl (fun K hK => ?_) AllReadyH.nil))
                    · go_simp
                      refine hK.out _ _ ?_ (fun hHeld => ?_)
                      · exact trivial
                      clear hK K
                      try simp only [Act.put, List.setIfInBounds_toArray, List.set_cons_zero, List.set_cons_succ]
                      refine wpAnyH_ready (rs := [7]) (by kernel_rfl) (by simp) ?_
                      refine (AllReadyH.cons (o := { dst := some 100, op := Op.call { callee := Callee.value (Operand.func 46), args := #[Operand.tmp 99], argTypes := #[4] }, type := 3, pos := _, after := #[{ on := 6, ground := Ground.data }], guard := none }) rfl (fun K hK => ?_) AllReadyH.nil)
                      go_simp
                      refine (flag_c _ _).mono ?_
                      rintro e w' ⟨rfl, rfl⟩
                      refine hK.out _ _ ?_ (fun hHeld => ?_)
                      · exact trivial
                      clear hK K
                      try simp only [Act.put, List.setIfInBounds_toArray, List.set_cons_zero, List.set_cons_succ]
                      refine wpAnyH_take (i := 8) (oi := { dst := some 101, op := Op.binOp BinOp.add 3 (Operand.tmp 96) (Operand.tmp 100) 3, type := 3, pos := _, after := #[{ on := 3, ground := Ground.data }, { on := 7, ground := Ground.data }], guard := none }) (v := ?_) rfl (by kernel_rfl) (by kernel_rfl) (by kernel_rfl) (fun _ _ _ h => h) (Or.inl ⟨by rfl, ?_⟩) (by assumption) ?_
                      rotate_left
                      · (intro w hSw; clear hSw; (go_simp <;> with_reducible rfl))
                      try simp only [Act.put, List.setIfInBounds_toArray, List.set_cons_zero, List.set_cons_succ]
                      refine wpAnyH_take (i := 9) (oi := { dst := some 102, op := Op.indexAddr 22 (Operand.tmp 93) (Operand.tmp 94), type := 0, pos := _, after := #[{ on := 0, ground := Ground.data }, { on := 1, ground := Ground.data }, { on := 0, ground := Ground.phase }, { on := 1, ground := Ground.phase }, { on := 2, ground := Ground.phase }, { on := 3, ground := Ground.phase }, { on := 4, ground := Ground.phase }, { on := 5, ground := Ground.phase }, { on := 6, ground := Ground.phase }, { on := 7, ground := Ground.phase }, { on := 8, ground := Ground.phase }], guard := none }) (v := ?_) rfl (by kernel_rfl) (by kernel_rfl) (by kernel_rfl) (fun _ _ _ h => h) (Or.inl ⟨by rfl, ?_⟩) (by assumption) ?_
                      rotate_left
                      · (intro w hSw; clear hSw; (go_simp <;> with_reducible rfl))
                      try simp only [Act.put, List.setIfInBounds_toArray, List.set_cons_zero, List.set_cons_succ]
                      refine wpAnyH_ready (rs := [10]) (by kernel_rfl) (by simp) ?_
                      refine (AllReadyH.cons (o := { dst := none, op := Op.store 3 (Operand.tmp 102) (Operand.tmp 101), type := 0, pos := _, after := #[{ on := 9, ground := Ground.data }, { on := 8, ground := Ground.data }, { on := 7, ground := Ground.chain }, { on := 0, ground := Ground.phase }, { on := 1, ground := Ground.phase }, { on := 2, ground := Ground.phase }, { on := 3, ground := Ground.phase }, { on := 4, ground := Ground.phase }, { on := 5, ground := Ground.phase }, { on := 6, ground := Ground.phase }, { on := 7, ground := Ground.phase }, { on := 8, ground := Ground.phase }], guard := none }) rfl (fun K hK => ?_) AllReadyH.nil)
                      go_simp
                      refine hK.out _ _ ?_ (fun hHeld => ?_)
                      · exact trivial
                      clear hK K
                      try simp only [Act.put, List.setIfInBounds_toArray, List.set_cons_zero, List.set_cons_succ]
                      refine wpAnyH_done (by kernel_rfl) ?_ _
                      clear hHeld
                      go_wp2_with fail
                      go_roundw
                      case rel => exact ⟨i + 1, (by have := HI.out; omega), by go_num, hownN, hGN⟩
                      case measure => have := HI.out; simp [intOf]; omega
                    · go_simp
                      refine (flag_c _ _).mono ?_
                      rintro e w' ⟨rfl, rfl⟩
                      refine hK.out _ _ ?_ (fun hHeld => ?_)
                      · exact trivial
                      clear hK K
                      try simp only [Act.put, List.setIfInBounds_toArray, List.set_cons_zero, List.set_cons_succ]
                      refine wpAnyH_ready (rs := [3]) (by kernel_rfl) (by simp) ?_
                      refine (AllReadyH.cons (o := { dst := some 96, op := Op.load 3 (Operand.tmp 95), type := 3, pos := _, after := #[{ on := 2, ground := Ground.data }], guard := none }) rfl (fun K hK => ?_) AllReadyH.nil)
                      go_simp
                      refine hK.out _ _ ?_ (fun hHeld => ?_)
                      · exact trivial
                      clear hK K
                      try simp only [Act.put, List.setIfInBounds_toArray, List.set_cons_zero, List.set_cons_succ]
                      refine wpAnyH_take (i := 8) (oi := { dst := some 101, op := Op.binOp BinOp.add 3 (Operand.tmp 96) (Operand.tmp 100) 3, type := 3, pos := _, after := #[{ on := 3, ground := Ground.data }, { on := 7, ground := Ground.data }], guard := none }) (v := ?_) rfl (by kernel_rfl) (by kernel_rfl) (by kernel_rfl) (fun _ _ _ h => h) (Or.inl ⟨by rfl, ?_⟩) (by assumption) ?_
                      rotate_left
                      · (intro w hSw; clear hSw; (go_simp <;> with_reducible rfl))
                      try simp only [Act.put, List.setIfInBounds_toArray, List.set_cons_zero, List.set_cons_succ]
                      refine wpAnyH_take (i := 9) (oi := { dst := some 102, op := Op.indexAddr 22 (Operand.tmp 93) (Operand.tmp 94), type := 0, pos := _, after := #[{ on := 0, ground := Ground.data }, { on := 1, ground := Ground.data }, { on := 0, ground := Ground.phase }, { on := 1, ground := Ground.phase }, { on := 2, ground := Ground.phase }, { on := 3, ground := Ground.phase }, { on := 4, ground := Ground.phase }, { on := 5, ground := Ground.phase }, { on := 6, ground := Ground.phase }, { on := 7, ground := Ground.phase }, { on := 8, ground := Ground.phase }], guard := none }) (v := ?_) rfl (by kernel_rfl) (by kernel_rfl) (by kernel_rfl) (fun _ _ _ h => h) (Or.inl ⟨by rfl, ?_⟩) (by assumption) ?_
                      rotate_left
                      · (intro w hSw; clear hSw; (go_simp <;> with_reducible rfl))
                      try simp only [Act.put, List.setIfInBounds_toArray, List.set_cons_zero, List.set_cons_succ]
                      refine wpAnyH_ready (rs := [10]) (by kernel_rfl) (by simp) ?_
                      refine (AllReadyH.cons (o := { dst := none, op := Op.store 3 (Operand.tmp 102) (Operand.tmp 101), type := 0, pos := _, after := #[{ on := 9, ground := Ground.data }, { on := 8, ground := Ground.data }, { on := 7, ground := Ground.chain }, { on := 0, ground := Ground.phase }, { on := 1, ground := Ground.phase }, { on := 2, ground := Ground.phase }, { on := 3, ground := Ground.phase }, { on := 4, ground := Ground.phase }, { on := 5, ground := Ground.phase }, { on := 6, ground := Ground.phase }, { on := 7, ground := Ground.phase }, { on := 8, ground := Ground.phase }], guard := none }) rfl (fun K hK => ?_) AllReadyH.nil)
                      go_simp
                      refine hK.out _ _ ?_ (fun hHeld => ?_)
                      · exact trivial
                      clear hK K
                      try simp only [Act.put, List.setIfInBounds_toArray, List.set_cons_zero, List.set_cons_succ]
                      refine wpAnyH_done (by kernel_rfl) ?_ _
                      clear hHeld
                      go_wp2_with fail
                      go_roundw
                      case rel => exact ⟨i + 1, (by have := HI.out; omega), by go_num, hownN, hGN⟩
                      case measure => have := HI.out; simp [intOf]; omega
                  · have hownN := hownA fl
                    have hGN := hGA (.int .i64 fl)
                    rw [show (mK c ws i).set i fl = mK c ws (i + 1) by rw [← HS1.out, HONE.out, if_neg hq, Int.add_zero]] at hownN
                    clear hownA hGA hown5 hG5 hmi hown hG hG4
                    refine wp_region_held_drew (S := (fun _ : World => True)) (by kernel_rfl) ?_ (fun hHeld => ?_)
                    · exact trivial
                    rw [hw5]
                    clear hw5
                    refine wpAnyH_take (i := 0) (oi := { dst := some 93, op := Op.move (Operand.tmp 8), type := 22, pos := _, after := #[], guard := none }) (v := ?_) rfl (by kernel_rfl) (by kernel_rfl) (by kernel_rfl) (fun _ _ _ h => h) (Or.inl ⟨by rfl, ?_⟩) (by assumption) ?_
                    rotate_left
                    · (intro w hSw; clear hSw; (go_simp <;> with_reducible rfl))
                    try simp only [Act.put, List.setIfInBounds_toArray, List.set_cons_zero, List.set_cons_succ]
                    refine wpAnyH_take (i := 1) (oi := { dst := some 94, op := Op.move (Operand.tmp 12), type := 3, pos := _, after := #[], guard := none }) (v := ?_) rfl (by kernel_rfl) (by kernel_rfl) (by kernel_rfl) (fun _ _ _ h => h) (Or.inl ⟨by rfl, ?_⟩) (by assumption) ?_
                    rotate_left
                    · (intro w hSw; clear hSw; (go_simp <;> with_reducible rfl))
                    try simp only [Act.put, List.setIfInBounds_toArray, List.set_cons_zero, List.set_cons_succ]
                    refine wpAnyH_take (i := 2) (oi := { dst := some 95, op := Op.indexAddr 22 (Operand.tmp 93) (Operand.tmp 94), type := 0, pos := _, after := #[{ on := 0, ground := Ground.data }, { on := 1, ground := Ground.data }], guard := none }) (v := ?_) rfl (by kernel_rfl) (by kernel_rfl) (by kernel_rfl) (fun _ _ _ h => h) (Or.inl ⟨by rfl, ?_⟩) (by assumption) ?_
                    rotate_left
                    · (intro w hSw; clear hSw; (go_simp <;> with_reducible rfl))
                    try simp only [Act.put, List.setIfInBounds_toArray, List.set_cons_zero, List.set_cons_succ]
                    refine wpAnyH_take (i := 4) (oi := { dst := some 97, op := Op.move (Operand.tmp 14), type := 3, pos := _, after := #[], guard := none }) (v := ?_) rfl (by kernel_rfl) (by kernel_rfl) (by kernel_rfl) (fun _ _ _ h => h) (Or.inl ⟨by rfl, ?_⟩) (by assumption) ?_
                    rotate_left
                    · (intro w hSw; clear hSw; (go_simp <;> with_reducible rfl))
                    try simp only [Act.put, List.setIfInBounds_toArray, List.set_cons_zero, List.set_cons_succ]
                    refine wpAnyH_take (i := 5) (oi := { dst := some 98, op := Op.move (Operand.tmp 9), type := 3, pos := _, after := #[], guard := none }) (v := ?_) rfl (by kernel_rfl) (by kernel_rfl) (by kernel_rfl) (fun _ _ _ h => h) (Or.inl ⟨by rfl, ?_⟩) (by assumption) ?_
                    rotate_left
                    · (intro w hSw; clear hSw; (go_simp <;> with_reducible rfl))
                    try simp only [Act.put, List.setIfInBounds_toArray, List.set_cons_zero, List.set_cons_succ]
                    refine wpAnyH_take (i := 6) (oi := { dst := some 99, op := Op.binOp BinOp.lss 3 (Operand.tmp 97) (Operand.tmp 98) 3, type := 4, pos := _, after := #[{ on := 4, ground := Ground.data }, { on := 5, ground := Ground.data }], guard := none }) (v := ?_) rfl (by kernel_rfl) (by kernel_rfl) (by kernel_rfl) (fun _ _ _ h => h) (Or.inl ⟨by rfl, ?_⟩) (by assumption) ?_
                    rotate_left
                    · (intro w hSw; clear hSw; (go_simp <;> with_reducible rfl))
                    try simp only [Act.put, List.setIfInBounds_toArray, List.set_cons_zero, List.set_cons_succ]
                    refine wpAnyH_ready (rs := [3, 7]) (by kernel_rfl) (by simp) ?_
                    refine (AllReadyH.cons (o := { dst := some 96, op := Op.load 3 (Operand.tmp 95), type := 3, pos := _, after := #[{ on := 2, ground := Ground.data }], guard := none }) rfl (fun K hK => ?_) (AllReadyH.cons (o := { dst := some 100, op := Op.call { callee := Callee.value (Operand.func 46), args := #[Operand.tmp 99], argTypes := #[4] }, type := 3, pos := _, after := #[{ on := 6, ground := Ground.data }], guard := none }) rfl (fun K hK => ?_) AllReadyH.nil))
                    · go_simp
                      refine hK.out _ _ ?_ (fun hHeld => ?_)
                      · exact trivial
                      clear hK K
                      try simp only [Act.put, List.setIfInBounds_toArray, List.set_cons_zero, List.set_cons_succ]
                      refine wpAnyH_ready (rs := [7]) (by kernel_rfl) (by simp) ?_
                      refine (AllReadyH.cons (o := { dst := some 100, op := Op.call { callee := Callee.value (Operand.func 46), args := #[Operand.tmp 99], argTypes := #[4] }, type := 3, pos := _, after := #[{ on := 6, ground := Ground.data }], guard := none }) rfl (fun K hK => ?_) AllReadyH.nil)
                      go_simp
                      refine (flag_c _ _).mono ?_
                      rintro e w' ⟨rfl, rfl⟩
                      refine hK.out _ _ ?_ (fun hHeld => ?_)
                      · exact trivial
                      clear hK K
                      try simp only [Act.put, List.setIfInBounds_toArray, List.set_cons_zero, List.set_cons_succ]
                      refine wpAnyH_take (i := 8) (oi := { dst := some 101, op := Op.binOp BinOp.add 3 (Operand.tmp 96) (Operand.tmp 100) 3, type := 3, pos := _, after := #[{ on := 3, ground := Ground.data }, { on := 7, ground := Ground.data }], guard := none }) (v := ?_) rfl (by kernel_rfl) (by kernel_rfl) (by kernel_rfl) (fun _ _ _ h => h) (Or.inl ⟨by rfl, ?_⟩) (by assumption) ?_
                      rotate_left
                      · (intro w hSw; clear hSw; (go_simp <;> with_reducible rfl))
                      try simp only [Act.put, List.setIfInBounds_toArray, List.set_cons_zero, List.set_cons_succ]
                      refine wpAnyH_take (i := 9) (oi := { dst := some 102, op := Op.indexAddr 22 (Operand.tmp 93) (Operand.tmp 94), type := 0, pos := _, after := #[{ on := 0, ground := Ground.data }, { on := 1, ground := Ground.data }, { on := 0, ground := Ground.phase }, { on := 1, ground := Ground.phase }, { on := 2, ground := Ground.phase }, { on := 3, ground := Ground.phase }, { on := 4, ground := Ground.phase }, { on := 5, ground := Ground.phase }, { on := 6, ground := Ground.phase }, { on := 7, ground := Ground.phase }, { on := 8, ground := Ground.phase }], guard := none }) (v := ?_) rfl (by kernel_rfl) (by kernel_rfl) (by kernel_rfl) (fun _ _ _ h => h) (Or.inl ⟨by rfl, ?_⟩) (by assumption) ?_
                      rotate_left
                      · (intro w hSw; clear hSw; (go_simp <;> with_reducible rfl))
                      try simp only [Act.put, List.setIfInBounds_toArray, List.set_cons_zero, List.set_cons_succ]
                      refine wpAnyH_ready (rs := [10]) (by kernel_rfl) (by simp) ?_
                      refine (AllReadyH.cons (o := { dst := none, op := Op.store 3 (Operand.tmp 102) (Operand.tmp 101), type := 0, pos := _, after := #[{ on := 9, ground := Ground.data }, { on := 8, ground := Ground.data }, { on := 7, ground := Ground.chain }, { on := 0, ground := Ground.phase }, { on := 1, ground := Ground.phase }, { on := 2, ground := Ground.phase }, { on := 3, ground := Ground.phase }, { on := 4, ground := Ground.phase }, { on := 5, ground := Ground.phase }, { on := 6, ground := Ground.phase }, { on := 7, ground := Ground.phase }, { on := 8, ground := Ground.phase }], guard := none }) rfl (fun K hK => ?_) AllReadyH.nil)
                      go_simp
                      refine hK.out _ _ ?_ (fun hHeld => ?_)
                      · exact trivial
                      clear hK K
                      try simp only [Act.put, List.setIfInBounds_toArray, List.set_cons_zero, List.set_cons_succ]
                      refine wpAnyH_done (by kernel_rfl) ?_ _
                      clear hHeld
                      go_wp2_with fail
                      go_roundw
                      case rel => exact ⟨i + 1, (by have := HI.out; omega), by go_num, hownN, hGN⟩
                      case measure => have := HI.out; simp [intOf]; omega
                    · go_simp
                      refine (flag_c _ _).mono ?_
                      rintro e w' ⟨rfl, rfl⟩
                      refine hK.out _ _ ?_ (fun hHeld => ?_)
                      · exact trivial
                      clear hK K
                      try simp only [Act.put, List.setIfInBounds_toArray, List.set_cons_zero, List.set_cons_succ]
                      refine wpAnyH_ready (rs := [3]) (by kernel_rfl) (by simp) ?_
                      refine (AllReadyH.cons (o := { dst := some 96, op := Op.load 3 (Operand.tmp 95), type := 3, pos := _, after := #[{ on := 2, ground := Ground.data }], guard := none }) rfl (fun K hK => ?_) AllReadyH.nil)
                      go_simp
                      refine hK.out _ _ ?_ (fun hHeld => ?_)
                      · exact trivial
                      clear hK K
                      try simp only [Act.put, List.setIfInBounds_toArray, List.set_cons_zero, List.set_cons_succ]
                      refine wpAnyH_take (i := 8) (oi := { dst := some 101, op := Op.binOp BinOp.add 3 (Operand.tmp 96) (Operand.tmp 100) 3, type := 3, pos := _, after := #[{ on := 3, ground := Ground.data }, { on := 7, ground := Ground.data }], guard := none }) (v := ?_) rfl (by kernel_rfl) (by kernel_rfl) (by kernel_rfl) (fun _ _ _ h => h) (Or.inl ⟨by rfl, ?_⟩) (by assumption) ?_
                      rotate_left
                      · (intro w hSw; clear hSw; (go_simp <;> with_reducible rfl))
                      try simp only [Act.put, List.setIfInBounds_toArray, List.set_cons_zero, List.set_cons_succ]
                      refine wpAnyH_take (i := 9) (oi := { dst := some 102, op := Op.indexAddr 22 (Operand.tmp 93) (Operand.tmp 94), type := 0, pos := _, after := #[{ on := 0, ground := Ground.data }, { on := 1, ground := Ground.data }, { on := 0, ground := Ground.phase }, { on := 1, ground := Ground.phase }, { on := 2, ground := Ground.phase }, { on := 3, ground := Ground.phase }, { on := 4, ground := Ground.phase }, { on := 5, ground := Ground.phase }, { on := 6, ground := Ground.phase }, { on := 7, ground := Ground.phase }, { on := 8, ground := Ground.phase }], guard := none }) (v := ?_) rfl (by kernel_rfl) (by kernel_rfl) (by kernel_rfl) (fun _ _ _ h => h) (Or.inl ⟨by rfl, ?_⟩) (by assumption) ?_
                      rotate_left
                      · (intro w hSw; clear hSw; (go_simp <;> with_reducible rfl))
                      try simp only [Act.put, List.setIfInBounds_toArray, List.set_cons_zero, List.set_cons_succ]
                      refine wpAnyH_ready (rs := [10]) (by kernel_rfl) (by simp) ?_
                      refine (AllReadyH.cons (o := { dst := none, op := Op.store 3 (Operand.tmp 102) (Operand.tmp 101), type := 0, pos := _, after := #[{ on := 9, ground := Ground.data }, { on := 8, ground := Ground.data }, { on := 7, ground := Ground.chain }, { on := 0, ground := Ground.phase }, { on := 1, ground := Ground.phase }, { on := 2, ground := Ground.phase }, { on := 3, ground := Ground.phase }, { on := 4, ground := Ground.phase }, { on := 5, ground := Ground.phase }, { on := 6, ground := Ground.phase }, { on := 7, ground := Ground.phase }, { on := 8, ground := Ground.phase }], guard := none }) rfl (fun K hK => ?_) AllReadyH.nil)
                      go_simp
                      refine hK.out _ _ ?_ (fun hHeld => ?_)
                      · exact trivial
                      clear hK K
                      try simp only [Act.put, List.setIfInBounds_toArray, List.set_cons_zero, List.set_cons_succ]
                      refine wpAnyH_done (by kernel_rfl) ?_ _
                      clear hHeld
                      go_wp2_with fail
                      go_roundw
                      case rel => exact ⟨i + 1, (by have := HI.out; omega), by go_num, hownN, hGN⟩
                      case measure => have := HI.out; simp [intOf]; omega
            · obtain rfl : i = ws.length := by omega
              rw [mK_all, HRF.out] at hown
              go_wp2_with fail
              go_ret
              exact ⟨_, rfl, Rd.of_owns hown, hG⟩
end Go.Proofs.YtamoefnpfkcigaaDoor

/- Lines of tolls: toll.Lines, the reference's TollLines. Written by gentln.py. -/
namespace Go.Proofs.YtamoefnpfkcigaaDoor
open Go.RowKit

def tlS (key : ByteArray) (l : List Cg) : Int := (l.map fun x => if x.1 = key then x.2.2.2 else 0).sum
def CgB (l : List Cg) : Prop := ∀ x ∈ l, 0 ≤ x.2.2.2 ∧ x.2.2.2 ≤ 1000000
theorem cgErr_b (b : Int) (l : List Cg) (h : cgErr b l = 0) : CgB l := by
  induction l generalizing b with
  | nil => exact fun p hp => by cases hp
  | cons p r ih =>
    unfold cgErr at h
    split at h
    · omega
    · split at h
      · omega
      · split at h
        · omega
        · split at h
          · omega
          · split at h
            · omega
            · rename_i ht
              have i3 := ih _ h
              intro q hq
              rcases List.mem_cons.1 hq with rfl | hq
              · unfold inB at ht
                simp at ht
                omega
              · exact i3 q hq
theorem cgE_ok {l : List Cg} (h : cgE l = 0) : CgB l ∧ l.length ≤ 1000 := by
  unfold cgE at h
  split at h
  · omega
  · exact ⟨cgErr_b _ _ h, by omega⟩
theorem tlS_bnd (key : ByteArray) {l : List Cg} (hb : CgB l) : 0 ≤ tlS key l ∧ tlS key l ≤ 1000000 * l.length := by
  induction l with
  | nil => simp [tlS]
  | cons s r ih =>
    have h1 := ih (fun x hx => hb x (List.mem_cons_of_mem _ hx))
    have h2 := hb s (List.mem_cons_self ..)
    have h4 : tlS key (s :: r) = (if s.1 = key then s.2.2.2 else 0) + tlS key r := by simp [tlS]
    rw [h4, List.length_cons]
    split <;> omega
theorem tlS_take (key : ByteArray) {l : List Cg} {k : Nat} {p : Cg} (h : l[k]? = some p) : tlS key (l.take (k + 1)) = tlS key (l.take k) + (if p.1 = key then p.2.2.2 else 0) := by
  unfold tlS
  rw [List.take_add_one, h, List.map_append, List.sum_append]
  simp
def tlL (fee sum : Int) : List Li := if sum = 0 then [] else if 0 < fee then [(6, ⟨#[116, 111, 108, 108]⟩, sum), (6, ⟨#[116, 111, 108, 108, 102, 101, 101]⟩, fee)] else [(6, ⟨#[116, 111, 108, 108]⟩, sum)]
def lnE (x : Tr) (l : List Cg) (key : ByteArray) : Int := if trE x = 0 then (if cgE l = 0 then (if keyB key = true then 0 else 5) else cgE l) else trE x
def lnL (x : Tr) (l : List Cg) (key : ByteArray) : List Li := if lnE x l key = 0 then tlL x.2.2 (tlS key l) else []
theorem tr_info (x : Tr) : (Tryd.prog.info? 51).map (·.size) = some (trC x).size := (by kernel_rfl : (Tryd.prog.info? 51).map (·.size) = some 3)
def TlRel (w : World) (l : List Cg) (key : ByteArray) (s i : Value) (wr : World) : Prop :=
  ∃ k : Nat, k ≤ l.length ∧ i = .int .i64 k ∧ s = .int .i64 (tlS key (l.take k)) ∧ G w wr none
set_option maxRecDepth 100000 in
set_option maxHeartbeats 8000000 in
theorem lines_c (x : Tr) (v : Value) (l : List Cg) (key : ByteArray) (w : World) (hr : RdR w 4 cgC v l) (hl : CgOk l) (hn : l.length ≤ 1000000) (hkey : Small key) :
    Calls Tryd.prog 31 #[.agg (trC x), v, .string key] w fun e w' => ∃ v', e = .returned (.tuple #[v', .int .i64 (lnE x l key)]) ∧ RdR w' 3 liC v' (lnL x l key) ∧ G w w' none := by
  obtain ⟨a, cap, rfl, hcap, hm⟩ := RdR.form hr
  obtain ⟨E, hE⟩ : ∃ E, lnE x l key = E := ⟨_, rfl⟩
  obtain ⟨XL, hXL⟩ : ∃ XL, lnL x l key = XL := ⟨_, rfl⟩
  have HE : Hid (E = if trE x = 0 then (if cgE l = 0 then (if keyB key = true then 0 else 5) else cgE l) else trE x) := Lib.hid (by rw [← hE]; rfl)
  have HXL0 : Hid (XL = if E = 0 then tlL x.2.2 (tlS key l) else []) := Lib.hid (by rw [← hXL, ← hE]; rfl)
  rw [hE, hXL]
  clear hE hXL
  unfold Small at hkey
  have CT := Lib.hid (fun w => tollRules_c x w)
  obtain ⟨d, q, f⟩ := x
  show Calls Tryd.prog 31 #[.agg #[.int .i64 d, .int .i64 q, .int .i64 f], .slice a l.length cap, .string key] w _
  have hB : Bk (w.alloc (.cells #[.int .i64 d, .int .i64 q, .int .i64 f] 51)) w.heap.size 51 #[.int .i64 d, .int .i64 q, .int .i64 f] := Bk.new _ _ _
  have hG := (G.refl w none).alloc (.cells #[.int .i64 d, .int .i64 q, .int .i64 f] 51)
  go_enter Tryd.func31, Tryd.ntmps31
  go_upto_region 1 with fail
  generalize w.alloc (.cells #[.int .i64 d, .int .i64 q, .int .i64 f] 51) = w1 at hB hG ⊢
  generalize w.heap.size = g at hB ⊢
  go_wp2_with (refine wpList_load_row rfl 51 _ rfl g rfl 51 #[.int .i64 d, .int .i64 q, .int .i64 f] (0, 0) _ hB Tryd.underlying51 rfl (tr_info (d, q, f)) ?_)
  refine (CT.out _).mono ?_; rintro e w2 ⟨rfl, hh⟩
  replace hr := (hr.quiet hG).quiet hh
  replace hB := hB.quiet hh
  replace hG := hG.trans hh
  clear hh
  generalize trE (d, q, f) = E1 at HE ⊢
  by_cases e1 : E1 = 0
  · subst e1
    have HE2 : Hid (E = if cgE l = 0 then (if keyB key = true then 0 else 5) else cgE l) := Lib.hid (by rw [HE.out, if_pos rfl])
    clear HE
    go_wp2_with fail
    refine (checkCharges_c _ l _ hr hl hn).mono ?_; rintro e w3 ⟨rfl, hh⟩
    replace hr := hr.quiet hh
    replace hB := hB.quiet hh
    replace hG := hG.trans hh
    clear hh
    obtain ⟨E2, hE2⟩ : ∃ E2, cgE l = E2 := ⟨_, rfl⟩
    have HC := Lib.hid hE2
    rw [hE2] at HE2 ⊢
    clear hE2
    by_cases e2 : E2 = 0
    · subst e2
      obtain ⟨hcb, hl1⟩ := cgE_ok HC.out
      have HCB := Lib.hid hcb
      have HR := Lib.hid hr
      clear hcb hr HC
      go_wp2_with fail
      refine (isKey_c _ _ hkey).mono ?_; rintro e w' ⟨rfl, rfl⟩
      cases hkb : keyB key with
      | true =>
        obtain rfl : E = 0 := by rw [HE2.out]; simp [hkb]
        have HXL : Hid (XL = tlL f (tlS key l)) := Lib.hid (by rw [HXL0.out, if_pos rfl])
        have hG0 := hG
        clear hkb HE2 HXL0 hG
        go_wp2_with fail
        go_loopw [10, 29] (TlRel w3 l key) (fun _ i _ => l.length - (intOf i).toNat)
        case atStart => exact ⟨0, by omega, rfl, rfl, G.refl _ _⟩
        case round =>
          obtain ⟨k, hkl, rfl, rfl, hGr⟩ := hrel
          by_cases hk : k < l.length
          · obtain ⟨⟨h, y, n, c⟩, hp⟩ : ∃ p, l[k]? = some p := ⟨_, List.getElem?_eq_getElem hk⟩
            obtain ⟨bb, bo, rfl, hbb, _⟩ := RdR.elem cgC_sz HR.out hGr hp
            have HW := Lib.hid (cgRow HR.out hGr hp)
            have hcb := HCB.out _ (List.mem_of_getElem? hp)
            dsimp only at hcb
            obtain ⟨c0, c1⟩ := hcb
            have HT := Lib.hid (tlS_take key hp)
            have hbd := tlS_bnd key (l := l.take k) (fun x hx => HCB.out x (List.mem_of_mem_take hx))
            have htl : (l.take k).length ≤ 1000 := by rw [List.length_take]; omega
            obtain ⟨S0, hS0⟩ : ∃ S0, tlS key (l.take k) = S0 := ⟨_, rfl⟩
            rw [hS0] at HT hbd ⊢
            clear hS0
            have HK := Lib.hid hk
            have hB5 : Bk (wr.alloc (.cells #[.string h, .string y, .int .i64 n, .int .i64 c] 108)) wr.heap.size 108 #[.string h, .string y, .int .i64 n, .int .i64 c] := Bk.new wr 108 _
            have hG5 := hGr.alloc (.cells #[.string h, .string y, .int .i64 n, .int .i64 c] 108)
            clear hp hGr
            go_upto_region 13 with (refine wpList_load_at rfl 108 _ rfl ⟨bb, bo + k * 4, none⟩ rfl #[.string h, .string y, .int .i64 n, .int .i64 c] _ HW.out Tryd.underlying108 rfl (cg_info (h, y, n, c)) ?_)
            clear HW
            generalize wr.alloc (.cells #[.string h, .string y, .int .i64 n, .int .i64 c] 108) = w5 at hB5 hG5 ⊢
            generalize wr.heap.size = g5 at hB5 ⊢
            have c0v : w5.cell? ⟨g5, 0, none⟩ = some (.string h) := hB5.cell 0
            have c3v : w5.cell? ⟨g5, 3, none⟩ = some (.int .i64 c) := hB5.cell 3
            by_cases hke : h = key
            · subst hke
              have hwr : IntKind.i64.wrap (S0 + c) = S0 + c := by rw [IntKind.wrap_i64]; omega
              go_wp2_with fail
              go_roundw
              case rel => exact ⟨k + 1, (by have := HK.out; omega), by go_num, (by rw [HT.out, if_pos rfl]), hG5⟩
              case measure => have := HK.out; simp [intOf]; omega
            · have hks : (h.toList == key.toList) = false := by
                cases hq : h.toList == key.toList with
                | false => rfl
                | true => exact absurd (eqB_iff.1 hq) hke
              go_wp2_with fail
              go_roundw
              case rel => exact ⟨k + 1, (by have := HK.out; omega), by go_num, (by rw [HT.out, if_neg hke, Int.add_zero]), hG5⟩
              case measure => have := HK.out; simp [intOf]; omega
          · obtain rfl : k = l.length := by omega
            rw [List.take_length]
            have hbd := tlS_bnd key HCB.out
            obtain ⟨SS, hSS⟩ : ∃ SS, tlS key l = SS := ⟨_, rfl⟩
            rw [hSS] at hbd HXL ⊢
            clear hSS
            obtain ⟨sb0, sb1⟩ := hbd
            have sb2 : SS ≤ 1000000000 := by omega
            by_cases s0 : SS = 0
            · subst s0
              obtain rfl : XL = [] := by rw [HXL.out]; rfl
              go_wp2_with fail
              go_ret2
              exact ⟨_, rfl, RdR.nil _ _ _, hG0.trans hGr⟩
            · have sb : ¬ 1000000000 < SS := by omega
              have hb : (wr.alloc (.cells #[.int .i64 6, .string ⟨#[116, 111, 108, 108]⟩, .int .i64 SS] 72)).ownsRow wr.heap.size 72 3 (.slice (some ⟨wr.heap.size, 0, none⟩) 1 1) 1 #[.int .i64 6, .string ⟨#[116, 111, 108, 108]⟩, .int .i64 SS].toList := World.ownsRow_lit wr #[.int .i64 6, .string ⟨#[116, 111, 108, 108]⟩, .int .i64 SS] 1 (Nat.le_refl _) (by show 1 ≤ maxLen; decide) rfl
              have hown1 : OwnLi (wr.alloc (.cells #[.int .i64 6, .string ⟨#[116, 111, 108, 108]⟩, .int .i64 SS] 72)) wr.heap.size (.slice (some ⟨wr.heap.size, 0, none⟩) 1 1) [(6, ⟨#[116, 111, 108, 108]⟩, SS)] := hb
              have hG1 := (hG0.trans hGr).alloc (.cells #[.int .i64 6, .string ⟨#[116, 111, 108, 108]⟩, .int .i64 SS] 72)
              have hB1 := (hB.quiet hGr).alloc (.cells #[.int .i64 6, .string ⟨#[116, 111, 108, 108]⟩, .int .i64 SS] 72)
              have hgw := (hG0.trans hGr).size
              clear hb
              go_upto_region 21 with fail
              generalize wr.alloc (.cells #[.int .i64 6, .string ⟨#[116, 111, 108, 108]⟩, .int .i64 SS] 72) = x1 at hown1 hG1 hB1 ⊢
              generalize wr.heap.size = g1 at hown1 hgw ⊢
              have c2 : x1.cell? ⟨g, 2, none⟩ = some (.int .i64 f) := hB1.cell 2
              by_cases f0 : 0 < f
              · obtain rfl : XL = [(6, ⟨#[116, 111, 108, 108]⟩, SS), (6, ⟨#[116, 111, 108, 108, 102, 101, 101]⟩, f)] := by rw [HXL.out]; unfold tlL; rw [if_neg s0, if_pos f0]
                have hownA := OwnX.alloc hown1 (.cells #[.int .i64 6, .string ⟨#[116, 111, 108, 108, 102, 101, 101]⟩, .int .i64 f] 72)
                have hob := OwnX.low hown1
                have hsz := hG1.size
                have hgx : g1 < x1.heap.size := (World.ownsRow.lt hown1 g1 rfl).2
                go_wp2_with (at_builtin; refine wpList_plain rfl fun K' hK' => wp_append_x li_rowOk _ _ rfl g1 (.slice (some ⟨g1, 0, none⟩) 1 1) [(6, ⟨#[116, 111, 108, 108]⟩, SS)] rfl hownA x1.heap.size (6, ⟨#[116, 111, 108, 108, 102, 101, 101]⟩, f) rfl (Bk.new x1 _ _) (by show 1 ≤ 1000; decide) (by simp; omega) ?_; intro v8 w8 hown8 hgrow; refine hK' _ _ ?_)
                go_wp2_with fail
                go_ret2
                exact ⟨_, rfl, Rd.of_owns hown8, (hG1.alloc _).other hgrow (fun r e => .inl (Nat.le_trans hgw (hob r e)))⟩
              · obtain rfl : XL = [(6, ⟨#[116, 111, 108, 108]⟩, SS)] := by rw [HXL.out]; unfold tlL; rw [if_neg s0, if_neg f0]
                go_wp2_with fail
                go_ret2
                exact ⟨_, rfl, Rd.of_owns hown1, hG1⟩
      | false =>
        obtain rfl : E = 5 := by rw [HE2.out]; simp [hkb]
        obtain rfl : XL = [] := by rw [HXL0.out, if_neg (by decide)]
        clear hkb HE2
        go_wp2_with fail
        go_ret2
        exact ⟨_, rfl, RdR.nil _ _ _, hG⟩
    · obtain rfl : E = E2 := by rw [HE2.out, if_neg e2]
      obtain rfl : XL = [] := by rw [HXL0.out, if_neg e2]
      have hb : (E != 0) = true := bne_iff_ne.2 e2
      clear HE2 HC e2
      go_wp2_with fail
      go_ret2
      exact ⟨_, rfl, RdR.nil _ _ _, hG⟩
  · obtain rfl : E = E1 := by rw [HE.out, if_neg e1]
    obtain rfl : XL = [] := by rw [HXL0.out, if_neg e1]
    have hb : (E != 0) = true := bne_iff_ne.2 e1
    clear HE e1
    go_wp2_with fail
    go_ret2
    exact ⟨_, rfl, RdR.nil _ _ _, hG⟩
set_option maxRecDepth 100000 in
set_option maxHeartbeats 8000000 in
theorem tollLines_c (x : Tr) (v : Value) (l : List Cg) (key : ByteArray) (w : World) (hr : RdR w 4 cgC v l) (he : cgE l = 0) :
    Calls Tryd.prog 35 #[.agg (trC x), v, .string key] w fun e w' => ∃ v', e = .returned (.tuple #[v', .int .i64 0]) ∧ RdR w' 3 liC v' (tlL x.2.2 (tlS key l)) ∧ G w w' none := by
  obtain ⟨a, cap, rfl, hcap, hm⟩ := RdR.form hr
  obtain ⟨XL, hXL⟩ : ∃ XL, tlL x.2.2 (tlS key l) = XL := ⟨_, rfl⟩
  have HXL : Hid (XL = tlL x.2.2 (tlS key l)) := Lib.hid (by rw [← hXL])
  rw [hXL]
  clear hXL
  obtain ⟨hcb, hl1⟩ := cgE_ok he
  have HCB := Lib.hid hcb
  clear hcb he
  obtain ⟨d, q, f⟩ := x
  dsimp only at HXL
  show Calls Tryd.prog 35 #[.agg #[.int .i64 d, .int .i64 q, .int .i64 f], .slice a l.length cap, .string key] w _
  have hB : Bk (w.alloc (.cells #[.int .i64 d, .int .i64 q, .int .i64 f] 51)) w.heap.size 51 #[.int .i64 d, .int .i64 q, .int .i64 f] := Bk.new _ _ _
  have hG0 := (G.refl w none).alloc (.cells #[.int .i64 d, .int .i64 q, .int .i64 f] 51)
  go_enter Tryd.func35, Tryd.ntmps35
  go_upto_region 1 with fail
  generalize w.alloc (.cells #[.int .i64 d, .int .i64 q, .int .i64 f] 51) = w1 at hB hG0 ⊢
  generalize w.heap.size = g at hB ⊢
  have HR := Lib.hid (hr.quiet hG0)
  clear hr
  go_wp2_with fail
  go_loopw [8, 14] (TlRel w1 l key) (fun _ i _ => l.length - (intOf i).toNat)
  case atStart => exact ⟨0, by omega, rfl, rfl, G.refl _ _⟩
  case round =>
    obtain ⟨k, hkl, rfl, rfl, hGr⟩ := hrel
    by_cases hk : k < l.length
    · obtain ⟨⟨h, y, n, c⟩, hp⟩ : ∃ p, l[k]? = some p := ⟨_, List.getElem?_eq_getElem hk⟩
      obtain ⟨bb, bo, rfl, hbb, _⟩ := RdR.elem cgC_sz HR.out hGr hp
      have HW := Lib.hid (cgRow HR.out hGr hp)
      have hcb := HCB.out _ (List.mem_of_getElem? hp)
      dsimp only at hcb
      obtain ⟨c0, c1⟩ := hcb
      have HT := Lib.hid (tlS_take key hp)
      have hbd := tlS_bnd key (l := l.take k) (fun x hx => HCB.out x (List.mem_of_mem_take hx))
      have htl : (l.take k).length ≤ 1000 := by rw [List.length_take]; omega
      obtain ⟨S0, hS0⟩ : ∃ S0, tlS key (l.take k) = S0 := ⟨_, rfl⟩
      rw [hS0] at HT hbd ⊢
      clear hS0
      have HK := Lib.hid hk
      have hB5 : Bk (wr.alloc (.cells #[.string h, .string y, .int .i64 n, .int .i64 c] 108)) wr.heap.size 108 #[.string h, .string y, .int .i64 n, .int .i64 c] := Bk.new wr 108 _
      have hG5 := hGr.alloc (.cells #[.string h, .string y, .int .i64 n, .int .i64 c] 108)
      clear hp hGr
      go_upto_region 5 with (refine wpList_load_at rfl 108 _ rfl ⟨bb, bo + k * 4, none⟩ rfl #[.string h, .string y, .int .i64 n, .int .i64 c] _ HW.out Tryd.underlying108 rfl (cg_info (h, y, n, c)) ?_)
      clear HW
      generalize wr.alloc (.cells #[.string h, .string y, .int .i64 n, .int .i64 c] 108) = w5 at hB5 hG5 ⊢
      generalize wr.heap.size = g5 at hB5 ⊢
      have c0v : w5.cell? ⟨g5, 0, none⟩ = some (.string h) := hB5.cell 0
      have c3v : w5.cell? ⟨g5, 3, none⟩ = some (.int .i64 c) := hB5.cell 3
      obtain ⟨w6, hw6⟩ : ∃ w6, w5.drew = w6 := ⟨_, rfl⟩
      have hG6 : G w1 w6 none := by rw [← hw6]; exact hG5.drew
      have hB6 : Bk w6 g5 108 #[.string h, .string y, .int .i64 n, .int .i64 c] := by rw [← hw6]; exact hB5.quiet ((G.refl w5 none).drew)
      clear c0v c3v hB5 hG5
      have c0v : w6.cell? ⟨g5, 0, none⟩ = some (.string h) := hB6.cell 0
      have c3v : w6.cell? ⟨g5, 3, none⟩ = some (.int .i64 c) := hB6.cell 3
      by_cases hke : h = key
      · subst hke
        have hwm : IntKind.i64.wrap c = c := by rw [IntKind.wrap_i64]; omega
        have hwr : IntKind.i64.wrap (S0 + c) = S0 + c := by rw [IntKind.wrap_i64]; omega
        refine wp_region_held_drew (S := (fun w : World => w.cell? ⟨g5, 0, none⟩ = some (.string h) ∧ w.cell? ⟨g5, 3, none⟩ = some (.int .i64 c))) (by kernel_rfl) ?_ (fun hHeld => ?_)
        · exact by rw [hw6]; exact ⟨c0v, c3v⟩
        rw [hw6] at hHeld ⊢
        clear hw6
        refine wpAnyH_take (i := 0) (oi := { dst := some 18, op := Op.move (Operand.tmp 8), type := 3, pos := _, after := #[], guard := none }) (v := ?_) rfl (by kernel_rfl) (by kernel_rfl) (by kernel_rfl) (fun _ _ _ h => h) (Or.inl ⟨by rfl, ?_⟩) (by assumption) ?_
        rotate_left
        · (intro w hSw; obtain ⟨q0, q3⟩ := hSw; (go_simp <;> with_reducible rfl))
        try simp only [Act.put, List.setIfInBounds_toArray, List.set_cons_zero, List.set_cons_succ]
        refine wpAnyH_take (i := 1) (oi := { dst := some 19, op := Op.fieldAddr 108 (Operand.tmp 10) 3, type := 0, pos := _, after := #[], guard := none }) (v := ?_) rfl (by kernel_rfl) (by kernel_rfl) (by kernel_rfl) (fun _ _ _ h => h) (Or.inl ⟨by rfl, ?_⟩) (by assumption) ?_
        rotate_left
        · (intro w hSw; obtain ⟨q0, q3⟩ := hSw; (go_simp <;> with_reducible rfl))
        try simp only [Act.put, List.setIfInBounds_toArray, List.set_cons_zero, List.set_cons_succ]
        refine wpAnyH_take (i := 2) (oi := { dst := some 20, op := Op.load 3 (Operand.tmp 19), type := 3, pos := _, after := #[{ on := 1, ground := Ground.data }], guard := none }) (v := ?_) rfl (by kernel_rfl) (by kernel_rfl) (by kernel_rfl) (fun _ _ _ h => h) (Or.inl ⟨by rfl, ?_⟩) (by assumption) ?_
        rotate_left
        · (intro w hSw; obtain ⟨q0, q3⟩ := hSw; (go_simp <;> with_reducible rfl))
        try simp only [Act.put, List.setIfInBounds_toArray, List.set_cons_zero, List.set_cons_succ]
        refine wpAnyH_take (i := 3) (oi := { dst := some 21, op := Op.fieldAddr 108 (Operand.tmp 10) 0, type := 0, pos := _, after := #[], guard := none }) (v := ?_) rfl (by kernel_rfl) (by kernel_rfl) (by kernel_rfl) (fun _ _ _ h => h) (Or.inl ⟨by rfl, ?_⟩) (by assumption) ?_
        rotate_left
        · (intro w hSw; obtain ⟨q0, q3⟩ := hSw; (go_simp <;> with_reducible rfl))
        try simp only [Act.put, List.setIfInBounds_toArray, List.set_cons_zero, List.set_cons_succ]
        refine wpAnyH_take (i := 4) (oi := { dst := some 22, op := Op.load 9 (Operand.tmp 21), type := 9, pos := _, after := #[{ on := 3, ground := Ground.data }], guard := none }) (v := ?_) rfl (by kernel_rfl) (by kernel_rfl) (by kernel_rfl) (fun _ _ _ h => h) (Or.inl ⟨by rfl, ?_⟩) (by assumption) ?_
        rotate_left
        · (intro w hSw; obtain ⟨q0, q3⟩ := hSw; (go_simp <;> with_reducible rfl))
        try simp only [Act.put, List.setIfInBounds_toArray, List.set_cons_zero, List.set_cons_succ]
        refine wpAnyH_take (i := 5) (oi := { dst := some 23, op := Op.move (Operand.tmp 2), type := 9, pos := _, after := #[], guard := none }) (v := ?_) rfl (by kernel_rfl) (by kernel_rfl) (by kernel_rfl) (fun _ _ _ h => h) (Or.inl ⟨by rfl, ?_⟩) (by assumption) ?_
        rotate_left
        · (intro w hSw; obtain ⟨q0, q3⟩ := hSw; (go_simp <;> with_reducible rfl))
        try simp only [Act.put, List.setIfInBounds_toArray, List.set_cons_zero, List.set_cons_succ]
        refine wpAnyH_take (i := 6) (oi := { dst := some 24, op := Op.binOp BinOp.eql 9 (Operand.tmp 22) (Operand.tmp 23) 9, type := 4, pos := _, after := #[{ on := 4, ground := Ground.data }, { on := 5, ground := Ground.data }], guard := none }) (v := ?_) rfl (by kernel_rfl) (by kernel_rfl) (by kernel_rfl) (fun _ _ _ h => h) (Or.inl ⟨by rfl, ?_⟩) (by assumption) ?_
        rotate_left
        · (intro w hSw; obtain ⟨q0, q3⟩ := hSw; (go_simp <;> with_reducible rfl))
        try simp only [Act.put, List.setIfInBounds_toArray, List.set_cons_zero, List.set_cons_succ]
        refine wpAnyH_ready (rs := [7]) (by kernel_rfl) (by simp) ?_
        refine (AllReadyH.cons (o := { dst := some 25, op := Op.call { callee := Callee.value (Operand.func 46), args := #[Operand.tmp 24], argTypes := #[4] }, type := 3, pos := _, after := #[{ on := 6, ground := Ground.data }], guard := none }) rfl (fun K hK => ?_) AllReadyH.nil)
        go_simp
        refine (flag_c _ _).mono ?_
        rintro e w' ⟨rfl, rfl⟩
        refine hK.out _ _ ?_ (fun hHeld => ?_)
        · exact ⟨c0v, c3v⟩
        clear hK K
        try simp only [Act.put, List.setIfInBounds_toArray, List.set_cons_zero, List.set_cons_succ]
        refine wpAnyH_take (i := 8) (oi := { dst := some 26, op := Op.binOp BinOp.mul 3 (Operand.tmp 20) (Operand.tmp 25) 3, type := 3, pos := _, after := #[{ on := 2, ground := Ground.data }, { on := 7, ground := Ground.data }], guard := none }) (v := ?_) rfl (by kernel_rfl) (by kernel_rfl) (by kernel_rfl) (fun _ _ _ h => h) (Or.inl ⟨by rfl, ?_⟩) (by assumption) ?_
        rotate_left
        · (intro w hSw; obtain ⟨q0, q3⟩ := hSw; (go_simp <;> with_reducible rfl))
        try simp only [Act.put, List.setIfInBounds_toArray, List.set_cons_zero, List.set_cons_succ]
        refine wpAnyH_take (i := 9) (oi := { dst := some 27, op := Op.binOp BinOp.add 3 (Operand.tmp 18) (Operand.tmp 26) 3, type := 3, pos := _, after := #[{ on := 0, ground := Ground.data }, { on := 8, ground := Ground.data }], guard := none }) (v := ?_) rfl (by kernel_rfl) (by kernel_rfl) (by kernel_rfl) (fun _ _ _ h => h) (Or.inl ⟨by rfl, ?_⟩) (by assumption) ?_
        rotate_left
        · (intro w hSw; obtain ⟨q0, q3⟩ := hSw; (go_simp <;> with_reducible rfl))
        try simp only [Act.put, List.setIfInBounds_toArray, List.set_cons_zero, List.set_cons_succ]
        refine wpAnyH_take (i := 10) (oi := { dst := some 8, op := Op.assign (Operand.tmp 27), type := 3, pos := _, after := #[{ on := 9, ground := Ground.data }, { on := 7, ground := Ground.chain }, { on := 0, ground := Ground.phase }, { on := 1, ground := Ground.phase }, { on := 2, ground := Ground.phase }, { on := 3, ground := Ground.phase }, { on := 4, ground := Ground.phase }, { on := 5, ground := Ground.phase }, { on := 6, ground := Ground.phase }, { on := 7, ground := Ground.phase }, { on := 8, ground := Ground.phase }, { on := 9, ground := Ground.phase }], guard := none }) (v := ?_) rfl (by kernel_rfl) (by kernel_rfl) (by kernel_rfl) (fun _ _ _ h => h) (Or.inl ⟨by rfl, ?_⟩) (by assumption) ?_
        rotate_left
        · (intro w hSw; obtain ⟨q0, q3⟩ := hSw; (go_simp <;> with_reducible rfl))
        try simp only [Act.put, List.setIfInBounds_toArray, List.set_cons_zero, List.set_cons_succ]
        refine wpAnyH_done (by kernel_rfl) ?_ _
        clear hHeld
        go_wp2_with fail
        go_roundw
        case rel => exact ⟨k + 1, (by have := HK.out; omega), by go_num, (by rw [HT.out, if_pos rfl]), hG6⟩
        case measure => have := HK.out; simp [intOf]; omega
      · have hks : (h.toList == key.toList) = false := by
          cases hq : h.toList == key.toList with
          | false => rfl
          | true => exact absurd (eqB_iff.1 hq) hke
        have HW00 : Hid (IntKind.i64.wrap (S0 + IntKind.i64.wrap 0) = S0) := Lib.hid (by rw [show IntKind.i64.wrap 0 = 0 by decide, Int.add_zero, IntKind.wrap_i64]; omega)
        refine wp_region_held_drew (S := (fun w : World => w.cell? ⟨g5, 0, none⟩ = some (.string h) ∧ w.cell? ⟨g5, 3, none⟩ = some (.int .i64 c))) (by kernel_rfl) ?_ (fun hHeld => ?_)
        · exact by rw [hw6]; exact ⟨c0v, c3v⟩
        rw [hw6] at hHeld ⊢
        clear hw6
        refine wpAnyH_take (i := 0) (oi := { dst := some 18, op := Op.move (Operand.tmp 8), type := 3, pos := _, after := #[], guard := none }) (v := ?_) rfl (by kernel_rfl) (by kernel_rfl) (by kernel_rfl) (fun _ _ _ h => h) (Or.inl ⟨by rfl, ?_⟩) (by assumption) ?_
        rotate_left
        · (intro w hSw; obtain ⟨q0, q3⟩ := hSw; (go_simp <;> with_reducible rfl))
        try simp only [Act.put, List.setIfInBounds_toArray, List.set_cons_zero, List.set_cons_succ]
        refine wpAnyH_take (i := 1) (oi := { dst := some 19, op := Op.fieldAddr 108 (Operand.tmp 10) 3, type := 0, pos := _, after := #[], guard := none }) (v := ?_) rfl (by kernel_rfl) (by kernel_rfl) (by kernel_rfl) (fun _ _ _ h => h) (Or.inl ⟨by rfl, ?_⟩) (by assumption) ?_
        rotate_left
        · (intro w hSw; obtain ⟨q0, q3⟩ := hSw; (go_simp <;> with_reducible rfl))
        try simp only [Act.put, List.setIfInBounds_toArray, List.set_cons_zero, List.set_cons_succ]
        refine wpAnyH_take (i := 2) (oi := { dst := some 20, op := Op.load 3 (Operand.tmp 19), type := 3, pos := _, after := #[{ on := 1, ground := Ground.data }], guard := none }) (v := ?_) rfl (by kernel_rfl) (by kernel_rfl) (by kernel_rfl) (fun _ _ _ h => h) (Or.inl ⟨by rfl, ?_⟩) (by assumption) ?_
        rotate_left
        · (intro w hSw; obtain ⟨q0, q3⟩ := hSw; (go_simp <;> with_reducible rfl))
        try simp only [Act.put, List.setIfInBounds_toArray, List.set_cons_zero, List.set_cons_succ]
        refine wpAnyH_take (i := 3) (oi := { dst := some 21, op := Op.fieldAddr 108 (Operand.tmp 10) 0, type := 0, pos := _, after := #[], guard := none }) (v := ?_) rfl (by kernel_rfl) (by kernel_rfl) (by kernel_rfl) (fun _ _ _ h => h) (Or.inl ⟨by rfl, ?_⟩) (by assumption) ?_
        rotate_left
        · (intro w hSw; obtain ⟨q0, q3⟩ := hSw; (go_simp <;> with_reducible rfl))
        try simp only [Act.put, List.setIfInBounds_toArray, List.set_cons_zero, List.set_cons_succ]
        refine wpAnyH_take (i := 4) (oi := { dst := some 22, op := Op.load 9 (Operand.tmp 21), type := 9, pos := _, after := #[{ on := 3, ground := Ground.data }], guard := none }) (v := ?_) rfl (by kernel_rfl) (by kernel_rfl) (by kernel_rfl) (fun _ _ _ h => h) (Or.inl ⟨by rfl, ?_⟩) (by assumption) ?_
        rotate_left
        · (intro w hSw; obtain ⟨q0, q3⟩ := hSw; (go_simp <;> with_reducible rfl))
        try simp only [Act.put, List.setIfInBounds_toArray, List.set_cons_zero, List.set_cons_succ]
        refine wpAnyH_take (i := 5) (oi := { dst := some 23, op := Op.move (Operand.tmp 2), type := 9, pos := _, after := #[], guard := none }) (v := ?_) rfl (by kernel_rfl) (by kernel_rfl) (by kernel_rfl) (fun _ _ _ h => h) (Or.inl ⟨by rfl, ?_⟩) (by assumption) ?_
        rotate_left
        · (intro w hSw; obtain ⟨q0, q3⟩ := hSw; (go_simp <;> with_reducible rfl))
        try simp only [Act.put, List.setIfInBounds_toArray, List.set_cons_zero, List.set_cons_succ]
        refine wpAnyH_take (i := 6) (oi := { dst := some 24, op := Op.binOp BinOp.eql 9 (Operand.tmp 22) (Operand.tmp 23) 9, type := 4, pos := _, after := #[{ on := 4, ground := Ground.data }, { on := 5, ground := Ground.data }], guard := none }) (v := ?_) rfl (by kernel_rfl) (by kernel_rfl) (by kernel_rfl) (fun _ _ _ h => h) (Or.inl ⟨by rfl, ?_⟩) (by assumption) ?_
        rotate_left
        · (intro w hSw; obtain ⟨q0, q3⟩ := hSw; (go_simp <;> with_reducible rfl))
        try simp only [Act.put, List.setIfInBounds_toArray, List.set_cons_zero, List.set_cons_succ]
        refine wpAnyH_ready (rs := [7]) (by kernel_rfl) (by simp) ?_
        refine (AllReadyH.cons (o := { dst := some 25, op := Op.call { callee := Callee.value (Operand.func 46), args := #[Operand.tmp 24], argTypes := #[4] }, type := 3, pos := _, after := #[{ on := 6, ground := Ground.data }], guard := none }) rfl (fun K hK => ?_) AllReadyH.nil)
        go_simp
        refine (flag_c _ _).mono ?_
        rintro e w' ⟨rfl, rfl⟩
        refine hK.out _ _ ?_ (fun hHeld => ?_)
        · exact ⟨c0v, c3v⟩
        clear hK K
        try simp only [Act.put, List.setIfInBounds_toArray, List.set_cons_zero, List.set_cons_succ]
        refine wpAnyH_take (i := 8) (oi := { dst := some 26, op := Op.binOp BinOp.mul 3 (Operand.tmp 20) (Operand.tmp 25) 3, type := 3, pos := _, after := #[{ on := 2, ground := Ground.data }, { on := 7, ground := Ground.data }], guard := none }) (v := ?_) rfl (by kernel_rfl) (by kernel_rfl) (by kernel_rfl) (fun _ _ _ h => h) (Or.inl ⟨by rfl, ?_⟩) (by assumption) ?_
        rotate_left
        · (intro w hSw; obtain ⟨q0, q3⟩ := hSw; (go_simp <;> with_reducible rfl))
        try simp only [Act.put, List.setIfInBounds_toArray, List.set_cons_zero, List.set_cons_succ]
        refine wpAnyH_take (i := 9) (oi := { dst := some 27, op := Op.binOp BinOp.add 3 (Operand.tmp 18) (Operand.tmp 26) 3, type := 3, pos := _, after := #[{ on := 0, ground := Ground.data }, { on := 8, ground := Ground.data }], guard := none }) (v := ?_) rfl (by kernel_rfl) (by kernel_rfl) (by kernel_rfl) (fun _ _ _ h => h) (Or.inl ⟨by rfl, ?_⟩) (by assumption) ?_
        rotate_left
        · (intro w hSw; obtain ⟨q0, q3⟩ := hSw; (go_simp <;> with_reducible rfl))
        try simp only [Act.put, List.setIfInBounds_toArray, List.set_cons_zero, List.set_cons_succ]
        refine wpAnyH_take (i := 10) (oi := { dst := some 8, op := Op.assign (Operand.tmp 27), type := 3, pos := _, after := #[{ on := 9, ground := Ground.data }, { on := 7, ground := Ground.chain }, { on := 0, ground := Ground.phase }, { on := 1, ground := Ground.phase }, { on := 2, ground := Ground.phase }, { on := 3, ground := Ground.phase }, { on := 4, ground := Ground.phase }, { on := 5, ground := Ground.phase }, { on := 6, ground := Ground.phase }, { on := 7, ground := Ground.phase }, { on := 8, ground := Ground.phase }, { on := 9, ground := Ground.phase }], guard := none }) (v := ?_) rfl (by kernel_rfl) (by kernel_rfl) (by kernel_rfl) (fun _ _ _ h => h) (Or.inl ⟨by rfl, ?_⟩) (by assumption) ?_
        rotate_left
        · (intro w hSw; obtain ⟨q0, q3⟩ := hSw; (go_simp <;> with_reducible rfl))
        try simp only [Act.put, List.setIfInBounds_toArray, List.set_cons_zero, List.set_cons_succ]
        refine wpAnyH_done (by kernel_rfl) ?_ _
        clear hHeld
        go_wp2_with fail
        go_roundw
        case rel => exact ⟨k + 1, (by have := HK.out; omega), by go_num, (by rw [HT.out, if_neg hke, Int.add_zero, HW00.out]), hG6⟩
        case measure => have := HK.out; simp [intOf]; omega
    · obtain rfl : k = l.length := by omega
      rw [List.take_length]
      have hbd := tlS_bnd key HCB.out
      obtain ⟨SS, hSS⟩ : ∃ SS, tlS key l = SS := ⟨_, rfl⟩
      rw [hSS] at hbd HXL ⊢
      clear hSS
      obtain ⟨sb0, sb1⟩ := hbd
      have sb2 : SS ≤ 1000000000 := by omega
      by_cases s0 : SS = 0
      · subst s0
        obtain rfl : XL = [] := by rw [HXL.out]; rfl
        go_wp2_with fail
        go_ret2
        exact ⟨_, rfl, RdR.nil _ _ _, hG0.trans hGr⟩
      · have sb : ¬ 1000000000 < SS := by omega
        have hb : (wr.alloc (.cells #[.int .i64 6, .string ⟨#[116, 111, 108, 108]⟩, .int .i64 SS] 72)).ownsRow wr.heap.size 72 3 (.slice (some ⟨wr.heap.size, 0, none⟩) 1 1) 1 #[.int .i64 6, .string ⟨#[116, 111, 108, 108]⟩, .int .i64 SS].toList := World.ownsRow_lit wr #[.int .i64 6, .string ⟨#[116, 111, 108, 108]⟩, .int .i64 SS] 1 (Nat.le_refl _) (by show 1 ≤ maxLen; decide) rfl
        have hown1 : OwnLi (wr.alloc (.cells #[.int .i64 6, .string ⟨#[116, 111, 108, 108]⟩, .int .i64 SS] 72)) wr.heap.size (.slice (some ⟨wr.heap.size, 0, none⟩) 1 1) [(6, ⟨#[116, 111, 108, 108]⟩, SS)] := hb
        have hG1 := (hG0.trans hGr).alloc (.cells #[.int .i64 6, .string ⟨#[116, 111, 108, 108]⟩, .int .i64 SS] 72)
        have hB1 := (hB.quiet hGr).alloc (.cells #[.int .i64 6, .string ⟨#[116, 111, 108, 108]⟩, .int .i64 SS] 72)
        have hgw := (hG0.trans hGr).size
        clear hb
        go_upto_region 12 with fail
        generalize wr.alloc (.cells #[.int .i64 6, .string ⟨#[116, 111, 108, 108]⟩, .int .i64 SS] 72) = x1 at hown1 hG1 hB1 ⊢
        generalize wr.heap.size = g1 at hown1 hgw ⊢
        have c2 : x1.cell? ⟨g, 2, none⟩ = some (.int .i64 f) := hB1.cell 2
        by_cases f0 : 0 < f
        · obtain rfl : XL = [(6, ⟨#[116, 111, 108, 108]⟩, SS), (6, ⟨#[116, 111, 108, 108, 102, 101, 101]⟩, f)] := by rw [HXL.out]; unfold tlL; rw [if_neg s0, if_pos f0]
          have hownA := OwnX.alloc hown1 (.cells #[.int .i64 6, .string ⟨#[116, 111, 108, 108, 102, 101, 101]⟩, .int .i64 f] 72)
          have hob := OwnX.low hown1
          have hsz := hG1.size
          have hgx : g1 < x1.heap.size := (World.ownsRow.lt hown1 g1 rfl).2
          go_wp2_with (at_builtin; refine wpList_plain rfl fun K' hK' => wp_append_x li_rowOk _ _ rfl g1 (.slice (some ⟨g1, 0, none⟩) 1 1) [(6, ⟨#[116, 111, 108, 108]⟩, SS)] rfl hownA x1.heap.size (6, ⟨#[116, 111, 108, 108, 102, 101, 101]⟩, f) rfl (Bk.new x1 _ _) (by show 1 ≤ 1000; decide) (by simp; omega) ?_; intro v8 w8 hown8 hgrow; refine hK' _ _ ?_)
          go_wp2_with fail
          go_ret2
          exact ⟨_, rfl, Rd.of_owns hown8, (hG1.alloc _).other hgrow (fun r e => .inl (Nat.le_trans hgw (hob r e)))⟩
        · obtain rfl : XL = [(6, ⟨#[116, 111, 108, 108]⟩, SS)] := by rw [HXL.out]; unfold tlL; rw [if_neg s0, if_neg f0]
          go_wp2_with fail
          go_ret2
          exact ⟨_, rfl, Rd.of_owns hown1, hG1⟩
end Go.Proofs.YtamoefnpfkcigaaDoor
