/- Axs, Tmb, Tim, Hir, Hik, Hif, His, Chg, Kpt, Hxs, Gld, Las, Reg, Mee, Kla, Soi, Spc, Pck, Pla, Plb, Pld, Drp, Plc, Ple, Plf, Plg. -/
import Derived.Test.YtddedckehllkoaaDoorZs1
import Derived.Laws.AppendOwnNone
import Derived.Laws.StructEq
import Derived.Deep.CutRange
import Derived.Deep.RegionHeld3
import Derived.Deep.MidRow
import Derived.Laws.ResultCell
import Derived.RegionTactic
import Derived.Deep.LoopGhost
import Derived.StillTailTactics
import Derived.LoopN
/- append(own, x...): a row that the call owns, and a list that can be read. No program. -/
namespace Go.Proofs.YtddedckehllkoaaDoor
open Go.RowKit

theorem wpList_append_xs {α : Type} {T : TypeId} {z : Nat} {c : α → Array Value} {P : Program} {TS : TypeId} {bytes : Nat} {zv : Value} (hk : RowOk P T TS z bytes zv c) {w : World} {ops : Array Oper} {rest : List Oper} {o : Oper} {a : Act} {Q : Exit → Act → World → Prop} (hgd : o.guard = none) (s x : Operand)
    (ho : o.op = .call { callee := .builtin .append, args := #[s, x], argTypes := #[TS, TS] }) (base : Nat) (v : Value) (l : List α) (hs : a.eval s = v) (hown : OwnX T z c w base v l)
    (u : Value) (m : List α) (hx : a.eval x = u) (hm : RdR w z c u m) (hl : l.length + m.length ≤ 1000) (hbase : base ≤ w.heap.size)
    (hK : ∀ v' w', OwnX T z c w' base v' (l ++ m) → w.grownBy w' v.ownBlock → wpList P ops Q rest (a.put o.dst v') w') : wpList P ops Q (o :: rest) a w := by
  obtain ⟨i0, hi, hz0, hz1, hz2⟩ := info_parts hk.row
  obtain ⟨ad, cap, rfl, h1, h2, h3, h4, h5⟩ := hm
  cases ad with
  | none =>
    obtain ⟨hz, hc⟩ := h4 rfl
    subst hc
    obtain rfl : m = [] := List.eq_nil_of_length_eq_zero hz
    refine wpList_append_own_none hgd s x TS ho base T i0 z hk.slice hi v l.length (rowL c l) hs hown hx ?_
    exact hK v w (by rw [List.append_nil]; exact hown) (World.grownBy.refl _ _)
  | some ad =>
    obtain ⟨e1, e2, e3⟩ := h5 ad rfl
    obtain ⟨b, o1, st⟩ := ad
    dsimp only at e1 e2 e3
    subst e1
    have hb : (l.length + m.length) * bytes ≤ 1001 * 100000 := Nat.mul_le_mul (by omega) hk.few
    refine wpList_append_own w hgd s x TS ho base T i0 zv z bytes hk.slice hi hz0 hz1 hz2 hk.zv hk.pos v l.length (rowL c l) hs hown ⟨b, o1, none⟩ m.length cap (rowL c m) hx h3 (fun j u hj => ?_) ?_ (by unfold maxLen; omega) (by omega) hbase ?_
    · rw [add_at]
      exact e3 j u hj
    · intro u hu
      obtain ⟨r, hr, hu⟩ := List.mem_flatMap.1 hu
      exact hk.one r u hu
    · intro v' w' q1 q2 _
      refine hK v' w' ?_ q2
      unfold OwnX
      rw [List.length_append, show rowL c (l ++ m) = rowL c l ++ rowL c m by unfold rowL; rw [List.flatMap_append]]
      exact q1
end Go.Proofs.YtddedckehllkoaaDoor

/- basic.IsTime, basic.IsMoment. -/
namespace Go.Proofs.YtddedckehllkoaaDoor
open Go.RowKit

theorem wi_info (a b : Int) : (Tryd.prog.info? 29).map (·.size) = some #[Value.int .i64 a, .int .i64 b].size := (by kernel_rfl : (Tryd.prog.info? 29).map (·.size) = some 2)
theorem wi_one (a b : Int) : #[Value.int .i64 a, .int .i64 b].all (·.oneCell') = true := by simp [Value.oneCell']
def timB (a z : Int) : Bool := decide (0 ≤ a) && (decide (a < z) && decide (z < 5761440))
theorem timB_iff (a z : Int) : timB a z = true ↔ 0 ≤ a ∧ a < z ∧ z < 5761440 := by unfold timB; simp
theorem timB_yes {a z : Int} (h : 0 ≤ a ∧ a < z ∧ z < 5761440) : timB a z = true := (timB_iff a z).2 h
theorem timB_no {a z : Int} (h : ¬ (0 ≤ a ∧ a < z ∧ z < 5761440)) : timB a z = false := by
  cases hb : timB a z with
  | false => rfl
  | true => exact absurd ((timB_iff a z).1 hb) h
set_option maxRecDepth 100000 in
set_option maxHeartbeats 1000000 in
theorem isTime_c (a z : Int) (w : World) : Calls Tryd.prog 79 #[.agg #[.int .i64 a, .int .i64 z]] w fun e w' => e = .returned (.bool (timB a z)) ∧ G w w' none := by
  have hG : G w (w.alloc (.cells #[.int .i64 a, .int .i64 z] 29)) none := (G.refl w none).alloc _
  rcases (show a < 0 ∨ (0 ≤ a ∧ z ≤ a) ∨ (0 ≤ a ∧ a < z ∧ 5761440 ≤ z) ∨ (0 ≤ a ∧ a < z ∧ z < 5761440) by omega) with h1 | ⟨h1, h2⟩ | ⟨h1, h2, h3⟩ | ⟨h1, h2, h3⟩
  · have HF : Hid (timB a z = false) := Lib.hid (timB_no (by omega))
    go_enter Tryd.func79, Tryd.ntmps79
    go_wp2_with fail
    go_ret
    exact ⟨ret_bool HF.out.symm, hG⟩
  · have HF : Hid (timB a z = false) := Lib.hid (timB_no (by omega))
    go_enter Tryd.func79, Tryd.ntmps79
    go_wp2_with fail
    go_ret
    exact ⟨ret_bool HF.out.symm, hG⟩
  · have HF : Hid (timB a z = false) := Lib.hid (timB_no (by omega))
    have h4 : ¬ z < 5761440 := by omega
    go_enter Tryd.func79, Tryd.ntmps79
    go_wp2_with fail
    go_ret
    exact ⟨ret_bool (by rw [HF.out] <;> exact decide_eq_false h4), hG⟩
  · have HF : Hid (timB a z = true) := Lib.hid (timB_yes ⟨h1, h2, h3⟩)
    go_enter Tryd.func79, Tryd.ntmps79
    go_wp2_with fail
    go_ret
    exact ⟨ret_bool (by rw [HF.out] <;> exact decide_eq_true h3), hG⟩
end Go.Proofs.YtddedckehllkoaaDoor

/- The time of a hire: Days, begun, TimeFault, DaysOf. -/
namespace Go.Proofs.YtddedckehllkoaaDoor
open Go.RowKit

def tE (a z : Int) : Int := if 0 ≤ a ∧ a < z ∧ z ≤ 5761439 then (if 172800 < z - a then 2 else 0) else 1
def tN (a z : Int) : Int := if tE a z = 0 then (z - a + 1439) / 1440 else 0
set_option maxRecDepth 100000 in
theorem begun_c (m : Int) (w : World) (h0 : 0 ≤ m) (h1 : m ≤ 5761439) : Calls Tryd.prog 80 #[.int .i64 m, .int .i64 1440] w fun e w' => e = .returned (.int .i64 ((m + 1439) / 1440)) ∧ w = w' := by
  have HF : Hid ((m + 1440 - 1) / 1440 = (m + 1439) / 1440) := Lib.hid (by omega)
  go_enter Tryd.func80, Tryd.ntmps80
  go_wp2_with fail
  go_ret
  exact ⟨ret_int HF.out, rfl⟩
set_option maxRecDepth 100000 in
set_option maxHeartbeats 2000000 in
theorem days_c (a z : Int) (w : World) (ha : bnd a) (hz : bnd z) : Calls Tryd.prog 25 #[.agg #[.int .i64 a, .int .i64 z]] w fun e w' => e = .returned (.tuple #[.int .i64 (tN a z), .int .i64 (tE a z)]) ∧ G w w' none := by
  unfold bnd at ha hz
  have hG : G w (w.alloc (.cells #[.int .i64 a, .int .i64 z] 29)) none := (G.refl w none).alloc _
  have hB := Bk.new w 29 #[.int .i64 a, .int .i64 z]
  by_cases h0 : 0 ≤ a ∧ a < z ∧ z < 5761440
  · obtain ⟨h1, h2, h3⟩ := h0
    have HI := Lib.hid (timB_yes ⟨h1, h2, h3⟩)
    have HT : Hid (tE a z = if 172800 < z - a then 2 else 0) := Lib.hid (by rw [tE, if_pos ⟨h1, h2, by omega⟩])
    have HD : Hid (tE a z = 0 → tN a z = (z - a + 1439) / 1440) := Lib.hid fun h => by rw [tN, if_pos h]
    have HD2 : Hid (tE a z ≠ 0 → tN a z = 0) := Lib.hid fun h => by rw [tN, if_neg h]
    go_enter Tryd.func25, Tryd.ntmps25
    go_wp2_with (refine wpList_load_row rfl 29 _ rfl w.heap.size rfl 29 #[.int .i64 a, .int .i64 z] (0, 0) _ hB Tryd.underlying29 rfl (wi_info a z) ?_)
    refine (isTime_c a z _).mono ?_; rintro e w1 ⟨rfl, hG1⟩
    rw [HI.out]
    have hB1 := hB.quiet hG1
    have hG01 := hG.trans hG1
    have c0 : w1.cell? ⟨w.heap.size, 0, none⟩ = some (.int .i64 a) := hB1.cell 0
    have c1 : w1.cell? ⟨w.heap.size, 1, none⟩ = some (.int .i64 z) := hB1.cell 1
    clear hB hG hG1
    rcases (show 172800 < z - a ∨ z - a ≤ 172800 by omega) with h4 | h4
    · have HE : Hid (tE a z = 2) := Lib.hid (by rw [HT.out, if_pos h4])
      have HN : Hid (tN a z = 0) := Lib.hid (HD2.out (by rw [HE.out]; decide))
      have h5 : 120 < (z - a + 1439) / 1440 := by omega
      go_wp2_with fail
      refine (begun_c _ _ (by omega) (by omega)).mono ?_; rintro e w' ⟨rfl, rfl⟩
      generalize (z - a + 1439) / 1440 = N at h5 ⊢
      go_wp2_with fail
      go_ret2
      exact ⟨by rw [HE.out, HN.out]; rfl, hG01⟩
    · have HE : Hid (tE a z = 0) := Lib.hid (by rw [HT.out, if_neg (by omega)])
      have HN : Hid (tN a z = (z - a + 1439) / 1440) := Lib.hid (HD.out HE.out)
      have h5 : (z - a + 1439) / 1440 ≤ 120 := by omega
      go_wp2_with fail
      refine (begun_c _ _ (by omega) (by omega)).mono ?_; rintro e w' ⟨rfl, rfl⟩
      generalize (z - a + 1439) / 1440 = N at h5 HN ⊢
      go_wp2_with fail
      go_ret2
      exact ⟨by rw [HE.out, HN.out]; rfl, hG01⟩
  · have HE : Hid (tE a z = 1) := Lib.hid (by rw [tE, if_neg (by omega)])
    have HN : Hid (tN a z = 0) := Lib.hid (by rw [tN, if_neg (by rw [HE.out]; decide)])
    have HI := Lib.hid (timB_no h0)
    clear h0
    go_enter Tryd.func25, Tryd.ntmps25
    go_wp2_with (refine wpList_load_row rfl 29 _ rfl w.heap.size rfl 29 #[.int .i64 a, .int .i64 z] (0, 0) _ hB Tryd.underlying29 rfl (wi_info a z) ?_)
    refine (isTime_c a z _).mono ?_; rintro e w1 ⟨rfl, hG1⟩
    rw [HI.out]
    go_wp2_with fail
    go_ret2
    exact ⟨by rw [HE.out, HN.out]; rfl, hG.trans hG1⟩
set_option maxRecDepth 100000 in
set_option maxHeartbeats 2000000 in
theorem timeFault_c (a z : Int) (w : World) (ha : bnd a) (hz : bnd z) : Calls Tryd.prog 29 #[.agg #[.int .i64 a, .int .i64 z]] w fun e w' => e = .returned (.int .i64 (tE a z)) ∧ G w w' none := by
  unfold bnd at ha hz
  have hG : G w (w.alloc (.cells #[.int .i64 a, .int .i64 z] 29)) none := (G.refl w none).alloc _
  rcases (show a < 0 ∨ (0 ≤ a ∧ z ≤ a) ∨ (0 ≤ a ∧ a < z ∧ 5761439 < z) ∨ (0 ≤ a ∧ a < z ∧ z ≤ 5761439) by omega) with h1 | ⟨h1, h2⟩ | ⟨h1, h2, h3⟩ | ⟨h1, h2, h3⟩
  · have HE : Hid (tE a z = 1) := Lib.hid (by rw [tE, if_neg (by omega)])
    go_enter Tryd.func29, Tryd.ntmps29
    go_wp2_with fail
    go_ret
    exact ⟨by rw [HE.out]; rfl, hG⟩
  · have HE : Hid (tE a z = 1) := Lib.hid (by rw [tE, if_neg (by omega)])
    go_enter Tryd.func29, Tryd.ntmps29
    go_wp2_with fail
    go_ret
    exact ⟨by rw [HE.out]; rfl, hG⟩
  · have HE : Hid (tE a z = 1) := Lib.hid (by rw [tE, if_neg (by omega)])
    go_enter Tryd.func29, Tryd.ntmps29
    go_wp2_with fail
    go_ret
    exact ⟨by rw [HE.out]; rfl, hG⟩
  · have HT : Hid (tE a z = if 172800 < z - a then 2 else 0) := Lib.hid (by rw [tE, if_pos ⟨h1, h2, h3⟩])
    rcases (show 172800 < z - a ∨ z - a ≤ 172800 by omega) with h4 | h4
    · have HE : Hid (tE a z = 2) := Lib.hid (by rw [HT.out, if_pos h4])
      go_enter Tryd.func29, Tryd.ntmps29
      go_wp2_with fail
      go_ret
      exact ⟨by rw [HE.out]; rfl, hG⟩
    · have HE : Hid (tE a z = 0) := Lib.hid (by rw [HT.out, if_neg (by omega)])
      go_enter Tryd.func29, Tryd.ntmps29
      go_wp2_with fail
      go_ret
      exact ⟨by rw [HE.out]; rfl, hG⟩
theorem tE_zero {a z : Int} (h : tE a z = 0) : 0 ≤ a ∧ a < z ∧ z ≤ 5761439 ∧ z - a ≤ 172800 := by
  unfold tE at h
  split at h
  · split at h
    · omega
    · omega
  · omega
def DofRel (w : World) (a z : Int) (s3 s4 : Value) (wr : World) : Prop :=
  ∃ j : Nat, s3 = .int .i64 j ∧ s4 = .int .i64 (a + 1440 * j) ∧ (j : Int) ≤ (z - a + 1439) / 1440 ∧ Bk wr w.heap.size 29 #[.int .i64 a, .int .i64 z] ∧ G w wr none
set_option maxRecDepth 100000 in
set_option maxHeartbeats 2000000 in
theorem daysOf_c (a z : Int) (w : World) (h : tE a z = 0) : Calls Tryd.prog 30 #[.agg #[.int .i64 a, .int .i64 z]] w fun e w' => e = .returned (.int .i64 (tN a z)) ∧ G w w' none := by
  have HN : Hid (tN a z = (z - a + 1439) / 1440) := Lib.hid (by rw [tN, if_pos h])
  obtain ⟨h1, h2, h3, h4⟩ := tE_zero h
  clear h
  go_enter Tryd.func30, Tryd.ntmps30
  go_wp2_with fail
  go_loopw [3, 4] (DofRel w a z) (fun s _ _ => ((z - a + 1439) / 1440).toNat - (intOf s).toNat)
  case atStart => exact ⟨0, rfl, by go_num, by omega, Bk.new w _ _, (G.refl _ _).alloc _⟩
  case round =>
    obtain ⟨j, rfl, rfl, hj, hB, hG⟩ := hrel
    have c0 : wr.cell? ⟨w.heap.size, 0, none⟩ = some (.int .i64 a) := hB.cell 0
    have c1 : wr.cell? ⟨w.heap.size, 1, none⟩ = some (.int .i64 z) := hB.cell 1
    by_cases hlt : a + 1440 * (j : Int) < z
    · go_wp2_with fail
      go_roundw
      case rel => exact ⟨j + 1, by go_num, by go_num, by omega, hB, hG⟩
      case measure => simp [intOf]; omega
    · have hjn : (j : Int) = (z - a + 1439) / 1440 := by omega
      go_wp2_with fail
      go_ret
      exact ⟨by rw [HN.out, ← hjn]; rfl, hG⟩
end Go.Proofs.YtddedckehllkoaaDoor

/- Hires: readings, legs; checkReading, checkBegin, isOut, checkEnd. -/
namespace Go.Proofs.YtddedckehllkoaaDoor
open Go.RowKit

/-- A reading: at, station, meter, fuel. -/
abbrev Rg := Int × ByteArray × Int × Int
def rgC (x : Rg) : Array Value := #[.int .i64 x.1, .string x.2.1, .int .i64 x.2.2.1, .int .i64 x.2.2.2]
def rgE (x : Rg) : Int := if momB x.1 = false then 1 else if keyB x.2.1 = false then 5 else if inB x.2.2.1 0 999999 = false then 1 else if inB x.2.2.2 0 8 = false then 1 else 0
/-- A leg: vehicle, out, in. -/
abbrev Lg := ByteArray × Rg × Rg
def lgC (x : Lg) : Array Value := #[.string x.1, .int .i64 x.2.1.1, .string x.2.1.2.1, .int .i64 x.2.1.2.2.1, .int .i64 x.2.1.2.2.2, .int .i64 x.2.2.1, .string x.2.2.2.1, .int .i64 x.2.2.2.2.1, .int .i64 x.2.2.2.2.2]
theorem lgC_sz (x : Lg) : (lgC x).size = 9 := rfl
def lgB (x : Lg) : Prop := Small x.1 ∧ Small x.2.1.2.1 ∧ Small x.2.2.2.1
def LgOk (l : List Lg) : Prop := ∀ x ∈ l, lgB x
/-- A hire's head: key, driver, from, to; the cells of a hire. -/
abbrev Hh := ByteArray × ByteArray × Int × Int
def hiC (h : Hh) (v : Value) : Array Value := #[.string h.1, .string h.2.1, .int .i64 h.2.2.1, .int .i64 h.2.2.2, v]
def noIn : Rg := (-1, ⟨#[]⟩, 0, 0)
def beE (f : Int) (b : Option Lg) (x : Lg) : Int := match b with
  | none => if x.2.1.1 = f then 0 else 7
  | some y => if x.2.1.1 = y.2.2.1 then (if x.1 = y.1 then 16 else if x.2.1.2.1 = y.2.2.2.1 then 0 else 8) else 7
def enE (last : Bool) (x : Lg) : Int := if x.2.2.1 = -1 then (if x.2.2 = noIn then (if last = true then 0 else 11) else 3) else if rgE x.2.2 = 0 then (if x.2.2.1 ≤ x.2.1.1 then 7 else 0) else rgE x.2.2
def lgE (f : Int) (b : Option Lg) (last : Bool) (x : Lg) : Int := if keyB x.1 = false then 5 else if rgE x.2.1 = 0 then (if beE f b x = 0 then enE last x else beE f b x) else rgE x.2.1
def lsE (f : Int) : Option Lg → List Lg → Int
  | _, [] => 0
  | b, x :: r => if lgE f b r.isEmpty x = 0 then lsE f (some x) r else lgE f b r.isEmpty x
def hiE (h : Hh) (l : List Lg) : Int := if keyB h.1 = false then 5 else if keyB h.2.1 = false then 5 else if tE h.2.2.1 h.2.2.2 = 0 then (if l.length = 0 then 3 else if 20 < l.length then 2 else lsE h.2.2.1 none l) else tE h.2.2.1 h.2.2.2
theorem Bk.part {w : World} {g : Nat} {T : TypeId} {cs : Array Value} (h : Bk w g T cs) (k : Nat) (ds : Array Value) (hd : ∀ j u, ds.toList[j]? = some u → cs[k + j]? = some u) : ∀ j u, ds.toList[j]? = some u → w.cell? ((⟨g, k, none⟩ : Addr).add j) = some u := fun j u hu => by
  rw [add_at, h.cell]
  exact hd j u hu
theorem lg_out (x : Lg) : ∀ j u, (#[.int .i64 x.2.1.1, .string x.2.1.2.1, .int .i64 x.2.1.2.2.1, .int .i64 x.2.1.2.2.2] : Array Value).toList[j]? = some u → (lgC x)[1 + j]? = some u := fun j u hu => by
  match j, hu with
  | 0, hu => exact hu
  | 1, hu => exact hu
  | 2, hu => exact hu
  | 3, hu => exact hu
  | n + 4, hu => simp at hu
theorem lg_in (x : Lg) : ∀ j u, (#[.int .i64 x.2.2.1, .string x.2.2.2.1, .int .i64 x.2.2.2.2.1, .int .i64 x.2.2.2.2.2] : Array Value).toList[j]? = some u → (lgC x)[5 + j]? = some u := fun j u hu => by
  match j, hu with
  | 0, hu => exact hu
  | 1, hu => exact hu
  | 2, hu => exact hu
  | 3, hu => exact hu
  | n + 4, hu => simp at hu
theorem lgRow {W w : World} {bb bo n cap : Nat} {l : List Lg} (h : RdR W 9 lgC (.slice (some ⟨bb, bo, none⟩) n cap) l) (hG : G W w none) {k : Nat} {p : Lg} (hp : l[k]? = some p) :
    ∀ j v, (lgC p).toList[j]? = some v → w.cell? ((⟨bb, bo + k * 9, none⟩ : Addr).add j) = some v := fun j v hv => by
  rw [add_at]
  exact RdR.cell lgC_sz h hG hp j v hv
theorem drop_empty {α : Type} (l : List α) (k : Nat) : (l.drop k).isEmpty = decide (l.length ≤ k) := by
  by_cases h : l.length ≤ k
  · rw [List.drop_eq_nil_of_le h, decide_eq_true h]; rfl
  · rw [decide_eq_false h]
    cases hd : l.drop k with
    | nil => have := List.drop_eq_nil_iff.1 hd; omega
    | cons _ _ => rfl
theorem toList_ext {a b : ByteArray} (h : a.toList = b.toList) : a = b := by
  rw [ByteArray.toList_eq, ByteArray.toList_eq] at h
  exact ByteArray.ext (Array.toList_inj.1 h)
end Go.Proofs.YtddedckehllkoaaDoor

/- Hires: checkLeg, Check. -/
namespace Go.Proofs.YtddedckehllkoaaDoor
open Go.RowKit

theorem hi_time (h : Hh) (v : Value) : ∀ j u, (#[Value.int .i64 h.2.2.1, .int .i64 h.2.2.2] : Array Value).toList[j]? = some u → (hiC h v)[2 + j]? = some u := fun j u hu => by
  match j, hu with
  | 0, hu => exact hu
  | 1, hu => exact hu
  | n + 2, hu => simp at hu
def LsRel (w : World) (f : Int) (l : List Lg) (i : Value) (wr : World) : Prop :=
  ∃ k : Nat, k ≤ l.length ∧ i = .int .i64 k ∧ lsE f none l = lsE f (prevAt l k) (l.drop k) ∧ G w wr none
end Go.Proofs.YtddedckehllkoaaDoor

/- Hires: the reference's readingFault, legFault, HireFault. -/
namespace Go.Proofs.YtddedckehllkoaaDoor
open Go.RowKit

end Go.Proofs.YtddedckehllkoaaDoor

/- Hires: openLeg, right, Start; made, StartOf. -/
namespace Go.Proofs.YtddedckehllkoaaDoor
open Go.RowKit

def hiZ : Array Value := hiC (⟨#[]⟩, ⟨#[]⟩, 0, 0) (.slice none 0 0)
/-- What is returned of a hire: itself, or none. -/
def hiH (E : Int) (h : Hh) : Hh := if E = 0 then h else (⟨#[]⟩, ⟨#[]⟩, 0, 0)
def hiL (E : Int) (l : List Lg) : List Lg := if E = 0 then l else []
def MadePost (h : Hh) (l : List Lg) (B : Nat → Prop) (w : World) (e : Ending) (w' : World) : Prop :=
  ∃ (H : Hh) (a : Option Addr) (n c : Nat), e = .returned (.tuple #[.agg #[.string H.1, .string H.2.1, .int .i64 H.2.2.1, .int .i64 H.2.2.2, .slice a n c], .int .i64 (hiE h l)]) ∧ H = hiH (hiE h l) h ∧ (∀ k, (Value.slice a n c).ownBlock = some k → B k) ∧ RdR w' 9 lgC (.slice a n c) (hiL (hiE h l) l) ∧ G w w' none
/-- A row's block is there. -/
theorem Rd.blk {w : World} {z : Nat} {v : Value} {n : Nat} {cs : List Value} (h : Rd w z v n cs) : ∀ k, v.ownBlock = some k → k < w.heap.size := by
  obtain ⟨a, c, rfl, h1, h2, h3, h4, h5⟩ := h
  intro k hk
  cases a with
  | none => cases hk
  | some b =>
    have := (h5 b rfl).2.1
    cases hk
    exact this
theorem hi_one (h : Hh) (a : Option Addr) (n c : Nat) : (hiC h (.slice a n c)).all (·.oneCell') = true := by simp [hiC, Value.oneCell']
theorem lg_one (x : Lg) : (lgC x).all (·.oneCell') = true := by simp [lgC, Value.oneCell']
/-- Two results, the first a struct that lies in memory. -/
theorem results_cell_hi {P : Program} {fn : Func} {p u : Tmp} {ty : TypeId} (h : fn.results = #[.cell p ty, .tmp u]) (tmps : Array Value) (w : World) (g : Nat) (t : TypeId) (cs : Array Value) (fr : Nat × Nat) (d : TypeDesc)
    (hp : tmps.getD p undef = .pointer (some ⟨g, 0, none⟩)) (hg : w.heap[g]? = some (.cells cs t fr))
    (hu : P.underlying ty = some d) (hd : (match d with | .struct _ | .array _ _ => true | _ => false) = true) (hi : (P.info? ty).map (·.size) = some cs.size) :
    (results fn tmps).run P w = .ok (.tuple #[.agg cs, tmps.getD u undef]) w := by
  have hp' : tmps[p]?.getD undef = .pointer (some ⟨g, 0, none⟩) := by simpa using hp
  simp [results, h, hp', asAddr, run_loadVar_row w g t ty cs fr d hg hu hd hi]
end Go.Proofs.YtddedckehllkoaaDoor

/- Hires: slices.Clone of legs, the last leg, whether it is open; a change to a copy of an open hire. -/
namespace Go.Proofs.YtddedckehllkoaaDoor
open Go.RowKit

/-- Nothing that was there has turned, but the blocks of S. -/
structure GS (S : Nat → Prop) (a b : World) : Prop where
  os : b.os = a.os
  tape : b.tape = a.tape
  output : b.output = a.output
  size : a.heap.size ≤ b.heap.size
  block : ∀ k, k < a.heap.size → ¬ S k → b.heap[k]? = a.heap[k]?
theorem GS.of_G {S : Nat → Prop} {a b : World} (h : G a b none) : GS S a b := ⟨h.os, h.tape, h.output, h.size, fun k hk _ => h.block k hk (by simp)⟩
theorem GS.of_Gs {S : Nat → Prop} {a b : World} {s : Nat} (h : G a b (some s)) (hs : S s) : GS S a b := ⟨h.os, h.tape, h.output, h.size, fun k hk hS => h.block k hk (fun e => by cases e; exact hS hs)⟩
theorem GS.trans {S : Nat → Prop} {a b c : World} (h : GS S a b) (k : GS S b c) : GS S a c :=
  ⟨k.os.trans h.os, k.tape.trans h.tape, k.output.trans h.output, Nat.le_trans h.size k.size, fun j hj hS => (k.block j (Nat.lt_of_lt_of_le hj h.size) hS).trans (h.block j hj hS)⟩
theorem GS.mono {S T : Nat → Prop} {a b : World} (h : GS S a b) (hST : ∀ k, k < a.heap.size → S k → T k) : GS T a b := ⟨h.os, h.tape, h.output, h.size, fun k hk hT => h.block k hk (fun hS => hT (hST k hk hS))⟩
/-- The blocks that were written were made since. -/
theorem GS.own {S : Nat → Prop} {A a b : World} (hG : G A a none) (h : GS S a b) (hS : ∀ k, S k → A.heap.size ≤ k) : G A b none :=
  ⟨h.os.trans hG.os, h.tape.trans hG.tape, h.output.trans hG.output, Nat.le_trans hG.size h.size, fun k hk _ => (h.block k (Nat.lt_of_lt_of_le hk hG.size) (fun hs => by have := hS k hs; omega)).trans (hG.block k hk (by simp))⟩
theorem Bk.gs {S : Nat → Prop} {w w' : World} {g : Nat} {T : TypeId} {cs : Array Value} (h : Bk w g T cs) (hg : GS S w w') (hs : ¬ S g) : Bk w' g T cs := (hg.block g h.lt hs).trans h

theorem lg_oneL (r : Lg) : ∀ u ∈ (lgC r).toList, u.oneCell' = true := by
  intro u hu
  simp [lgC] at hu
  rcases hu with rfl | rfl | rfl | rfl | rfl | rfl | rfl | rfl | rfl <;> rfl
theorem rowL_one {α : Type} {c : α → Array Value} (h : ∀ r, ∀ u ∈ (c r).toList, u.oneCell' = true) (l : List α) : ∀ u ∈ rowL c l, u.oneCell' = true := by
  intro u hu
  obtain ⟨x, _, hx⟩ := List.mem_flatMap.1 hu
  exact h x u hx

/-- Whether the last leg is still out. -/
def ioB (l : List Lg) : Bool := match l[l.length - 1]? with
  | some x => x.2.2.1 == -1
  | none => false
theorem ioB_pos {l : List Lg} (h : ioB l = true) : 0 < l.length := by
  cases l with
  | nil => cases h
  | cons a r => simp
end Go.Proofs.YtddedckehllkoaaDoor

/- Facts that stand while only some blocks are written. No program of its own. -/
namespace Go.Proofs.YtddedckehllkoaaDoor
open Go.RowKit

theorem Rd.gs {S : Nat → Prop} {w w' : World} {z : Nat} {v : Value} {n : Nat} {cs : List Value} (h : Rd w z v n cs) (hg : GS S w w') (hs : ∀ k, v.ownBlock = some k → ¬ S k) : Rd w' z v n cs :=
  h.of_eq fun b hb hlt => ⟨Nat.lt_of_lt_of_le hlt hg.size, hg.block b hlt (hs b hb)⟩
/-- A fact that stands while only blocks of S are written. -/
def KS (S : Nat → Prop) (w : World) (P : World → Prop) : Prop := ∀ w', GS S w w' → P w'
theorem GS.refl (S : Nat → Prop) (w : World) : GS S w w := GS.of_G (G.refl _ _)
theorem KS.now {S : Nat → Prop} {w : World} {P : World → Prop} (h : KS S w P) : P w := h w (GS.refl _ _)
theorem KS.step {S : Nat → Prop} {w w' : World} {P : World → Prop} (h : KS S w P) (hG : GS S w w') : KS S w' P := fun _ hg => h _ (hG.trans hg)
theorem KS.and {S : Nat → Prop} {w : World} {P Q : World → Prop} (h : KS S w P) (k : KS S w Q) : KS S w (fun w => P w ∧ Q w) := fun w' hg => ⟨h w' hg, k w' hg⟩
theorem KS.bk {S : Nat → Prop} {w : World} {g : Nat} {T : TypeId} {cs : Array Value} (h : Bk w g T cs) (hg : ¬ S g) : KS S w (fun w => Bk w g T cs) := fun _ hG => h.gs hG hg
theorem KS.rd {S : Nat → Prop} {w : World} {z n : Nat} {v : Value} {cs : List Value} (h : Rd w z v n cs) (hb : ∀ k, v.ownBlock = some k → ¬ S k) : KS S w (fun w => Rd w z v n cs) := fun _ hG => h.gs hG hb
/-- The stream's block, and what was made since. -/
def Snew (s N : Nat) (k : Nat) : Prop := k = s ∨ N ≤ k
theorem GS.stream {s N : Nat} {w w' : World} (h : G w w' (some s)) : GS (Snew s N) w w' := GS.of_Gs h (.inl rfl)
theorem GS.row {s N : Nat} {w : World} {g : Nat} (hg : N ≤ g) (cs : Array Value) : GS (Snew s N) w (w.setRow g cs) := GS.of_Gs ((G.refl w (some g)).setRow (.inr rfl) cs) (.inr hg)
theorem GS.cell {s N : Nat} {w : World} {p : Addr} (hg : N ≤ p.block) (u : Value) : GS (Snew s N) w (w.setCell p u) := GS.of_Gs ((G.refl w (some p.block)).setCell (.inr rfl) u) (.inr hg)
/-- The stream alone was there, of what was written. -/
theorem GS.toG {s N : Nat} {A a b : World} (hA : G A a (some s)) (h : GS (Snew s N) a b) (hN : A.heap.size ≤ N) : G A b (some s) :=
  ⟨h.os.trans hA.os, h.tape.trans hA.tape, h.output.trans hA.output, Nat.le_trans hA.size h.size, fun k hk hne => (h.block k (Nat.lt_of_lt_of_le hk hA.size) (fun e => by
    rcases e with e | e
    · exact hne (by rw [e])
    · omega)).trans (hA.block k hk hne)⟩
theorem SB.gs {s N K : Nat} {w w' : World} (h : SB w s K) (hg : G w w' none) : SB w' s K := h.quiet hg
end Go.Proofs.YtddedckehllkoaaDoor

/- Lists of hires: CheckAll, HiresFault. Written by genhxs.py. -/
namespace Go.Proofs.YtddedckehllkoaaDoor
open Go.RowKit

/-- A hire and its legs are small. -/
def HSm (H : Hh) (l : List Lg) : Prop := LgOk l ∧ Small H.1 ∧ Small H.2.1 ∧ bnd H.2.2.1 ∧ bnd H.2.2.2 ∧ l.length ≤ 20
/-- A hire of a list: its fields, where its legs lie, its legs. -/
abbrev Hx := Hh × (Option Addr × Nat) × List Lg
def hxV (x : Hx) : Value := .slice x.2.1.1 x.2.2.length x.2.1.2
def hxC (x : Hx) : Array Value := hiC x.1 (hxV x)
theorem hxC_sz (x : Hx) : (hxC x).size = 5 := rfl
def hxE (x : Hx) : Int := hiE x.1 x.2.2
/-- The legs of all hires can be read. -/
def HxL (w : World) (L : List Hx) : Prop := ∀ x ∈ L, RdR w 9 lgC (hxV x) x.2.2
def HxR (w : World) (v : Value) (L : List Hx) : Prop := RdR w 5 hxC v L ∧ HxL w L
def HxOk (L : List Hx) : Prop := ∀ x ∈ L, HSm x.1 x.2.2
theorem HxL.quiet {w w' : World} {L : List Hx} (h : HxL w L) (hG : G w w' none) : HxL w' L := fun x hx => Rd.quiet (h x hx) hG
theorem HxR.quiet {w w' : World} {v : Value} {L : List Hx} (h : HxR w v L) (hG : G w w' none) : HxR w' v L := ⟨Rd.quiet h.1 hG, h.2.quiet hG⟩
/-- All that is read was made since. -/
def HxNew (N : Nat) (v : Value) (L : List Hx) : Prop := (∀ k, v.ownBlock = some k → N ≤ k) ∧ ∀ x ∈ L, ∀ k, (hxV x).ownBlock = some k → N ≤ k
theorem HxR.grown {w w' : World} {v : Value} {L : List Hx} {s N : Nat} (h : HxR w v L) (hn : HxNew N v L) (hs : s < N) (hG : G w w' (some s)) : HxR w' v L :=
  ⟨Rd.grown h.1 hG (fun k e hk => by cases e; have := hn.1 _ hk; omega), fun x hx => Rd.grown (h.2 x hx) hG (fun k e hk => by cases e; have := hn.2 x hx _ hk; omega)⟩
def hsE (b : ByteArray) : List Hx → Int
  | [] => 0
  | x :: r => if hxE x = 0 then (if leB x.1.1 b = true then 7 else hsE x.1.1 r) else hxE x
def haE (L : List Hx) : Int := if 500 < L.length then 2 else hsE ⟨#[]⟩ L
def HaRel (w : World) (L : List Hx) (v i : Value) (wr : World) : Prop :=
  ∃ (k : Nat) (b : ByteArray), k ≤ L.length ∧ i = .int .i64 k ∧ v = .string b ∧ hsE ⟨#[]⟩ L = hsE b (L.drop k) ∧ G w wr none
theorem hxRow {W w : World} {bb bo n cap : Nat} {l : List Hx} (h : RdR W 5 hxC (.slice (some ⟨bb, bo, none⟩) n cap) l) (hG : G W w none) {k : Nat} {p : Hx} (hp : l[k]? = some p) :
    ∀ j v, (hxC p).toList[j]? = some v → w.cell? ((⟨bb, bo + k * 5, none⟩ : Addr).add j) = some v := fun j v hv => by
  rw [add_at]
  exact RdR.cell hxC_sz h hG hp j v hv
end Go.Proofs.YtddedckehllkoaaDoor

/- A struct that is loaded behind '&&' or '||'. No program. -/
namespace Go.Proofs.YtddedckehllkoaaDoor
open Go.RowKit

theorem wpList_load_gd {P : Program} {ops : Array Oper} {rest : List Oper} {o : Oper} {a : Act} {w : World} {Q : Exit → Act → World → Prop} (hw : Region.wanted o (yielded ops a.tmps) = true) (ty : TypeId) (x : Operand) (ho : o.op = .load ty x)
    (ad : Addr) (hx : a.eval x = .pointer (some ad)) (cs : Array Value) (d : TypeDesc) (hc : ∀ j v, cs.toList[j]? = some v → w.cell? (ad.add j) = some v)
    (hu : P.underlying ty = some d) (hd : (match d with | .struct _ | .array _ _ => true | _ => false) = true) (hi : (P.info? ty).map (·.size) = some cs.size)
    (h : wpList P ops Q rest (a.put o.dst (.agg cs)) w) : wpList P ops Q (o :: rest) a w :=
  wpList_step fun K hK => by
    rw [if_pos hw]
    unfold Oper.wp execOp
    simp only [ho, hx, Instr.loadAt, Instr.sureAddr, Sem.run_bind, Sem.run_pure, Result.andThen_ok, run_loadVar_at w ad ty cs d hc hu hd hi]
    exact hK _ _ h
end Go.Proofs.YtddedckehllkoaaDoor

/- When a leg lasts: basic.Lasts, rentref1.Lasts; the function that With hands on; slices.IndexFunc, ContainsFunc at legs. -/
namespace Go.Proofs.YtddedckehllkoaaDoor
open Go.RowKit

/-- When a leg ends. -/
def toL (p : Lg) : Int := if p.2.2.1 = -1 then 5761440 else p.2.2.1
/-- Has a leg a vehicle at a moment? -/
def hasL (v : ByteArray) (t : Int) (p : Lg) : Bool := p.1.toList == v.toList && hasB p.2.1.1 (toL p) t
end Go.Proofs.YtddedckehllkoaaDoor

/- Steps of a region that draws its order, by hand. No program. -/
namespace Go.Proofs.YtddedckehllkoaaDoor
open Go.RowKit
section
variable {P : Program} {ops : Array Oper} {o : Oper} {a : Act} {w : World} {K : Act → World → Prop} {Q : Exit → Act → World → Prop} {E : Prop}
theorem st_val (hg : o.guard = none) {v : Value} {w' : World} (hr : (execOp a.eval o).run P w = .ok (.value v) w') (hK : K (a.put o.dst v) w') : if Region.wanted o (yielded ops a.tmps) = true then Oper.wp P o a w K Q else E := by
  rw [if_pos (by simp [Region.wanted, hg])]
  unfold Oper.wp
  rw [hr]
  exact hK
theorem st_wp (hg : o.guard = none) (h : Oper.wp P o a w K Q) : if Region.wanted o (yielded ops a.tmps) = true then Oper.wp P o a w K Q else E := by
  rw [if_pos (by simp [Region.wanted, hg])]
  exact h
theorem st_call (hg : o.guard = none) {f : FuncId} {args : Array Value} {w1 : World} (hr : (execOp a.eval o).run P w = .ok (.enter f args) w1) (hc : Calls P f args w1 fun e w' => ∃ v, e = .returned v ∧ K (a.put o.dst v) w') : if Region.wanted o (yielded ops a.tmps) = true then Oper.wp P o a w K Q else E := by
  rw [if_pos (by simp [Region.wanted, hg])]
  unfold Oper.wp
  rw [hr]
  refine hc.mono ?_
  rintro e w' ⟨v, rfl, hK⟩
  exact hK
theorem run_load_row {ty : TypeId} {x : Operand} (ho : o.op = .load ty x) (g : Nat) (hx : a.eval x = .pointer (some ⟨g, 0, none⟩)) (t : TypeId) (cs : Array Value) (d : TypeDesc) (hg : Bk w g t cs)
    (hu : P.underlying ty = some d) (hd : (match d with | .struct _ | .array _ _ => true | _ => false) = true) (hi : (P.info? ty).map (·.size) = some cs.size) : (execOp a.eval o).run P w = .ok (.value (.agg cs)) w := by
  unfold execOp
  simp only [ho, hx, Instr.loadAt, Instr.sureAddr, Sem.run_bind, Sem.run_pure, Result.andThen_ok, run_loadVar_row w g t ty cs (0, 0) d hg hu hd hi]
/-- One that may come up, and it alone. -/
theorem ready_one {md : Region.Mode} {fuel : Nat} {listed : Array Bool} {i : Nat} (hr : Region.ready md ops listed = [i]) (ho : ops[i]? = some o)
    (h : ∀ K' : Act → World → Prop, (∀ a w, wpAny P md ops Q fuel (listed.setIfInBounds i true) a w → K' a w) → if Region.wanted o (yielded ops a.tmps) = true then Oper.wp P o a w K' Q else K' (a.put o.dst undef) w) : wpAny P md ops Q (fuel + 1) listed a w :=
  wpAny_ready hr (by simp) (AllReady.cons ho h AllReady.nil)
theorem ready_two {md : Region.Mode} {fuel : Nat} {listed : Array Bool} {i j : Nat} {o2 : Oper} (hr : Region.ready md ops listed = [i, j]) (ho : ops[i]? = some o) (ho2 : ops[j]? = some o2)
    (h : ∀ K' : Act → World → Prop, (∀ a w, wpAny P md ops Q fuel (listed.setIfInBounds i true) a w → K' a w) → if Region.wanted o (yielded ops a.tmps) = true then Oper.wp P o a w K' Q else K' (a.put o.dst undef) w)
    (h2 : ∀ K' : Act → World → Prop, (∀ a w, wpAny P md ops Q fuel (listed.setIfInBounds j true) a w → K' a w) → if Region.wanted o2 (yielded ops a.tmps) = true then Oper.wp P o2 a w K' Q else K' (a.put o2.dst undef) w) : wpAny P md ops Q (fuel + 1) listed a w :=
  wpAny_ready hr (by simp) (AllReady.cons ho h (AllReady.cons ho2 h2 AllReady.nil))
end
end Go.Proofs.YtddedckehllkoaaDoor

/- Clashes: where legs of two hires meet (hire.meeting, whatever function says which are alike). Its drawn regions are written by genmee.py. -/
namespace Go.Proofs.YtddedckehllkoaaDoor
open Go.RowKit

/-- Two legs meet, and are alike. -/
def ckP (al : Lg → Lg → Bool) (x y : Lg) : Bool := decide (max x.2.1.1 y.2.1.1 < min (toL x) (toL y)) && al x y
def meO (al : Lg → Lg → Bool) : List Lg → List Lg → Option Int
  | [], _ => none
  | _ :: _, [] => none
  | x :: a, y :: b => if ckP al x y = true then some (max x.2.1.1 y.2.1.1) else if toL x ≤ toL y then meO al a (y :: b) else meO al (x :: a) b
termination_by a b => a.length + b.length
theorem RdR.tail {α : Type} {w : World} {z : Nat} {c : α → Array Value} {a : Option Addr} {n cap : Nat} {x : α} {l : List α} (hz : ∀ p, (c p).size = z) (h : RdR w z c (.slice a (n + 1) cap) (x :: l)) :
    RdR w z c (.slice (if cap = 1 then a else a.map (·.add (1 * z))) (n + 1 - 1) (cap - 1)) l := by
  obtain ⟨a', c', e, h1, h2, h3, h4, h5⟩ := h
  simp only [List.length_cons] at e h1
  obtain ⟨rfl, rfl, rfl⟩ : a = a' ∧ n = l.length ∧ cap = c' := by cases e; exact ⟨rfl, rfl, rfl⟩
  refine ⟨_, _, rfl, by omega, by omega, rowL_len hz _, fun e => ?_, fun b hb => ?_⟩
  · split at e
    · have := (h4 e).1; simp at this
    · cases a with
      | none => have := (h4 rfl).1; simp at this
      | some ad => simp at e
  · by_cases hc : cap = 1
    · rw [if_pos hc] at hb
      obtain ⟨q1, q2, q3⟩ := h5 b hb
      have hl0 : l = [] := List.eq_nil_of_length_eq_zero (by omega)
      subst hl0
      exact ⟨q1, q2, fun j u hj => by simp [rowL] at hj⟩
    · rw [if_neg hc] at hb
      cases a with
      | none => simp at hb
      | some ad =>
        obtain ⟨q1, q2, q3⟩ := h5 ad rfl
        obtain ⟨bb, bo, bs⟩ := ad
        dsimp only at q1 q2 q3
        subst q1
        simp only [Option.map_some, Option.some.injEq] at hb
        rw [add_at] at hb
        subst hb
        refine ⟨rfl, q2, fun j u hj => ?_⟩
        have := q3 (z + j) u (by rw [rowL_cons, List.getElem?_append_right (by rw [Array.length_toList, hz]; omega)]; rw [Array.length_toList, hz, show z + j - z = j by omega]; exact hj)
        dsimp only at this ⊢
        rw [show bo + 1 * z + j = bo + (z + j) by omega]
        exact this
def MeRel (w : World) (al : Lg → Lg → Bool) (la lb : List Lg) (gk : Nat) (s0 s1 : Value) (wr : World) : Prop :=
  ∃ (x y : List Lg), gk = x.length + y.length ∧ x.length ≤ 1000 ∧ y.length ≤ 1000 ∧ meO al la lb = meO al x y ∧ RdR w 9 lgC s0 x ∧ RdR w 9 lgC s1 y ∧ G w wr none
def MeW (w0 : World) (p q : Lg) (s8 s9 : Value) (w' : World) : Prop :=
  ∃ g8 g9, s8 = .pointer (some ⟨g8, 0, none⟩) ∧ s9 = .pointer (some ⟨g9, 0, none⟩) ∧ Bk w' g8 29 #[.int .i64 p.2.1.1, .int .i64 (toL p)] ∧ Bk w' g9 29 #[.int .i64 q.2.1.1, .int .i64 (toL q)] ∧ G w0 w' none
end Go.Proofs.YtddedckehllkoaaDoor

/- Clashes: what excludes that two hires can both be (hire.clashesOf). -/
namespace Go.Proofs.YtddedckehllkoaaDoor
open Go.RowKit

/-- A clash: two keys, a kind, a moment. -/
abbrev Ks := ByteArray × ByteArray × Int × Int
def ksC (x : Ks) : Array Value := #[.string x.1, .string x.2.1, .int .i64 x.2.2.1, .int .i64 x.2.2.2]
theorem ksC_sz (x : Ks) : (ksC x).size = 4 := rfl
theorem ks_oneL (r : Ks) : ∀ u ∈ (ksC r).toList, u.oneCell' = true := by
  intro u hu
  simp [ksC] at hu
  rcases hu with rfl | rfl | rfl | rfl <;> rfl
def ckL (a b : ByteArray) (kind : Int) (o : Option Int) : List Ks := match o with
  | none => []
  | some m => [(a, b, kind, m)]
theorem ckL_len (a b : ByteArray) (kind : Int) (o : Option Int) : (ckL a b kind o).length ≤ 1 := by cases o <;> simp [ckL]
def alV (p q : Lg) : Bool := p.1.toList == q.1.toList
def alD (x y : Hh) (_ _ : Lg) : Bool := x.2.1.toList == y.2.1.toList
theorem GS.grow {S : Nat → Prop} {w w' : World} {o : Option Nat} (h : w.grownBy w' o) (ho : ∀ r, o = some r → S r) : GS S w w' := by
  cases o with
  | none => exact GS.of_G h
  | some r => exact GS.of_Gs h (ho r rfl)
/-- What excludes that two hires can both be. -/
def clOf (x y : Hh) (la lb : List Lg) : List Ks := ckL x.1 y.1 1 (meO alV la lb) ++ ckL x.1 y.1 2 (meO (alD x y) la lb)
theorem clOf_len (x y : Hh) (la lb : List Lg) : (clOf x y la lb).length ≤ 2 := by
  have h1 := ckL_len x.1 y.1 1 (meO alV la lb)
  have h2 := ckL_len x.1 y.1 2 (meO (alD x y) la lb)
  rw [clOf, List.length_append]
  omega
end Go.Proofs.YtddedckehllkoaaDoor

/- slices.SortStableFunc at ints, fewer than 20: insertion. Written by gensoi.py. -/
namespace Go.Proofs.YtddedckehllkoaaDoor
open Go.RowKit

def inC (n : Int) : Array Value := #[.int .i64 n]
theorem inC_sz (n : Int) : (inC n).size = 1 := rfl
theorem in_rowL (l : List Int) : rowL inC l = l.map (Value.int .i64) := by
  induction l with
  | nil => rfl
  | cons s l ih => rw [rowL_cons, ih]; rfl
theorem in_rowOk : RowOk Tryd.prog 3 22 1 8 (.int .i64 0) inC := ⟨by kernel_rfl, Tryd.underlying22, fun r u hu => by simp [inC] at hu; subst hu; rfl, inC_sz, rfl, by omega, by omega⟩
abbrev OwnIn (w : World) (base : Nat) (v : Value) (l : List Int) : Prop := OwnX 3 1 inC w base v l
theorem OwnX.form0 {α : Type} {T : TypeId} {z : Nat} {c : α → Array Value} {w : World} {base : Nat} {v : Value} {l : List α} (h : OwnX T z c w base v l) (h0 : 0 < l.length) : ∃ g cap cur, v = .slice (some ⟨g, 0, none⟩) l.length cap ∧ Bk w g T cur := by
  rcases h.2 with ⟨rfl, h3⟩ | ⟨g, cap, cur, rfl, hb, hg, _⟩
  · omega
  · exact ⟨g, cap, cur, rfl, hg⟩
/-- One number moves down as far as it is less than the one before it. -/
def insJ {α : Type} (c : α → α → Bool) : Nat → List α → List α
  | 0, l => l
  | j + 1, l => match l[j + 1]?, l[j]? with
    | some x, some y => if c x y = true then insJ c j ((l.set (j + 1) y).set j x) else l
    | _, _ => l
/-- The numbers from a place on move down, one after the other. -/
def isF {α : Type} (c : α → α → Bool) : Nat → Nat → List α → List α
  | 0, _, l => l
  | n + 1, i, l => isF c n (i + 1) (insJ c i l)
def isrt {α : Type} (c : α → α → Bool) (l : List α) : List α := isF c (l.length - 1) 1 l
theorem insJ_len {α : Type} (c : α → α → Bool) : ∀ (j : Nat) (l : List α), (insJ c j l).length = l.length
  | 0, _ => rfl
  | j + 1, l => by
    unfold insJ
    split
    · split
      · rw [insJ_len c j]; simp
      · rfl
    · rfl
theorem isF_len {α : Type} (c : α → α → Bool) : ∀ (n i : Nat) (l : List α), (isF c n i l).length = l.length
  | 0, _, _ => rfl
  | n + 1, i, l => by rw [isF, isF_len c n, insJ_len]
theorem soi_set {w : World} {base g n cap : Nat} {l : List Int} (h : OwnIn w base (.slice (some ⟨g, 0, none⟩) n cap) l) (hl : l.length = n) {j : Nat} {x : Int} (hx : l[j]? = some x) (y : Int) : OwnIn (w.setCell ⟨g, j, none⟩ (.int .i64 y)) base (.slice (some ⟨g, 0, none⟩) n cap) (l.set j y) := by
  subst hl
  have h2 := OwnX.set (c := inC) inC_sz h hx 0 (.int .i64 y) (by omega) (q := y) rfl
  unfold OwnIn OwnX
  rw [List.length_set]
  simpa using h2
theorem soi_free {w : World} {base g n cap : Nat} {l : List Int} (h : OwnIn w base (.slice (some ⟨g, 0, none⟩) n cap) l) (hl : l.length = n) (j : Nat) : w.frozen? ⟨g, j, none⟩ = false := by
  subst hl
  exact ownsRow_free h j
/-- What may be written: the list's own block. -/
def S1 (v : Value) (k : Nat) : Prop := v.ownBlock = some k
def SoRel (w : World) (base : Nat) (v : Value) (c : Int → Int → Bool) (l0 : List Int) (s8 : Value) (wr : World) : Prop :=
  ∃ (i : Nat) (l : List Int), 1 ≤ i ∧ i ≤ max l0.length 1 ∧ s8 = .int .i64 i ∧ isrt c l0 = isF c (l0.length - i) i l ∧ l.length = l0.length ∧ (∀ z ∈ l, z ∈ l0) ∧ OwnIn wr base v l ∧ GS (S1 v) w wr
def SiRel (w : World) (base : Nat) (v : Value) (c : Int → Int → Bool) (l0 : List Int) (i : Nat) (li : List Int) (s9 : Value) (wr : World) : Prop :=
  ∃ (j : Nat) (l : List Int), j ≤ i ∧ s9 = .int .i64 j ∧ insJ c i li = insJ c j l ∧ l.length = l0.length ∧ (∀ z ∈ l, z ∈ l0) ∧ OwnIn wr base v l ∧ GS (S1 v) w wr
end Go.Proofs.YtddedckehllkoaaDoor

/- Cents that are divided: mark.checkSplit, rentref2.SplitFault, cmp.Compare of ints. -/
namespace Go.Proofs.YtddedckehllkoaaDoor
open Go.RowKit

def spA (ws : List Int) : Bool := ws.all fun n => inB n 0 5761440
def spE (c : Int) (ws : List Int) : Int := if inB c 0 1000000000 = false then 1 else if 50 < ws.length then 2 else if spA ws = false then 1 else if ws.sum = 0 then 8 else 0
def spS (c : Int) (ws : List Int) : Int := if spE c ws = 0 then ws.sum else 0
abbrev RdI (w : World) (v : Value) (l : List Int) : Prop := RdR w 1 inC v l
theorem sum_take_succ (l : List Int) (k : Nat) (p : Int) (hp : l[k]? = some p) : (l.take (k + 1)).sum = (l.take k).sum + p := by
  rw [List.take_add_one, hp, List.sum_append]; simp
theorem spA_bnd {l : List Int} (h : ∀ n ∈ l, inB n 0 5761440 = true) : 0 ≤ l.sum ∧ l.sum ≤ 5761440 * (l.length : Int) := by
  induction l with
  | nil => simp
  | cons a r ih =>
    have h1 := h a List.mem_cons_self
    have h2 := ih (fun n hn => h n (List.mem_cons_of_mem _ hn))
    unfold inB at h1
    simp at h1
    simp only [List.sum_cons, List.length_cons]
    push_cast
    omega
theorem spA_false {l : List Int} {k : Nat} {p : Int} (hp : l[k]? = some p) (h : inB p 0 5761440 = false) : spA l = false := by
  unfold spA
  rw [Bool.eq_false_iff]
  intro q
  have := List.all_eq_true.1 q p (List.mem_of_getElem? hp)
  rw [h] at this
  cases this
def CspRel (w : World) (ws : List Int) (s6 i : Value) (wr : World) : Prop :=
  ∃ k : Nat, k ≤ ws.length ∧ i = .int .i64 k ∧ s6 = .int .i64 (ws.take k).sum ∧ (∀ n ∈ ws.take k, inB n 0 5761440 = true) ∧ G w wr none
theorem take_mem {l : List Int} {k : Nat} {p : Int} (hp : l[k]? = some p) (h : ∀ n ∈ l.take k, inB n 0 5761440 = true) (hb : inB p 0 5761440 = true) : ∀ n ∈ l.take (k + 1), inB n 0 5761440 = true := fun n hn => by
  rw [List.take_add_one, hp] at hn
  rcases List.mem_append.1 hn with hn | hn
  · exact h n hn
  · simp at hn; rw [hn]; exact hb
/-- What cmp.Compare returns. -/
def cpI (a b : Int) : Int := if a < b then -1 else if b < a then 1 else 0
set_option maxRecDepth 100000 in
set_option maxHeartbeats 2000000 in
theorem isNaNi_c (n : Int) (w : World) : Calls Tryd.prog 134 #[.int .i64 n] w fun e w' => e = .returned (.bool false) ∧ w = w' := by
  have h : (n != n) = false := by simp
  go_enter Tryd.func134, Tryd.ntmps134
  go_wp2_with fail
  go_ret
  exact ⟨rfl, rfl⟩
set_option maxRecDepth 100000 in
set_option maxHeartbeats 2000000 in
theorem compareI_c (a b : Int) (w : World) : Calls Tryd.prog 114 #[.int .i64 a, .int .i64 b] w fun e w' => e = .returned (.int .i64 (cpI a b)) ∧ w = w' := by
  obtain ⟨R, hR⟩ : ∃ R, cpI a b = R := ⟨_, rfl⟩
  have HR : Hid (R = if a < b then -1 else if b < a then 1 else 0) := Lib.hid (by rw [← hR]; rfl)
  rw [hR]
  clear hR
  go_enter Tryd.func114, Tryd.ntmps114
  go_wp2_with fail
  refine (isNaNi_c _ _).mono ?_; rintro e w' ⟨rfl, rfl⟩
  go_wp2_with fail
  refine (isNaNi_c _ _).mono ?_; rintro e w' ⟨rfl, rfl⟩
  by_cases h1 : a < b
  · obtain rfl : R = -1 := by rw [HR.out, if_pos h1]
    clear HR
    go_wp2_with fail
    go_ret
    exact ⟨rfl, rfl⟩
  · by_cases h2 : b < a
    · obtain rfl : R = 1 := by rw [HR.out, if_neg h1, if_pos h2]
      clear HR
      go_wp2_with fail
      go_ret
      exact ⟨rfl, rfl⟩
    · obtain rfl : R = 0 := by rw [HR.out, if_neg h1, if_neg h2]
      clear HR
      go_wp2_with fail
      go_ret
      exact ⟨rfl, rfl⟩
end Go.Proofs.YtddedckehllkoaaDoor

/- What was picked; a block as a row; 'when' at literals. -/
namespace Go.Proofs.YtddedckehllkoaaDoor
open Go.RowKit

theorem small_of {s : ByteArray} (h : s.size ≤ 100) : Small s := by unfold Small; omega
theorem bnd_pick {zs : List Int} {r : Int} (h : r ∈ zs) (hz : zs.all (fun z => decide (-1099511627776 ≤ z ∧ z ≤ 1099511627776)) = true) : bnd r := by
  unfold bnd
  exact of_decide_eq_true (List.all_eq_true.1 hz r h)
theorem small_pick {zs : List ByteArray} {r : ByteArray} (h : r ∈ zs) (hz : zs.all (fun z => decide (z.size ≤ 100)) = true) : Small r := small_of (of_decide_eq_true (List.all_eq_true.1 hz r h))
theorem Bk.rd {w : World} {g : Nat} {T : TypeId} {cs : Array Value} (h : Bk w g T cs) (z n : Nat) (hc : cs.size = n * z) (hn : n ≤ 1000) : Rd w z (.slice (some ⟨g, 0, none⟩) n n) n cs.toList := by
  refine ⟨_, n, rfl, Nat.le_refl _, by unfold maxLen; omega, by simpa using hc, (fun e => by cases e), fun b hb => ?_⟩
  obtain rfl := Option.some.inj hb
  refine ⟨rfl, h.lt, fun j u hj => ?_⟩
  rw [Nat.zero_add, h.cell]
  simpa using hj
theorem when_t (n : Int) (w : World) : Calls Tryd.prog 18 #[.bool true, .int .i64 n] w fun e w' => e = .returned (.int .i64 n) ∧ w = w' := by simpa using when_c true n w
theorem when_f (n : Int) (w : World) : Calls Tryd.prog 18 #[.bool false, .int .i64 n] w fun e w' => e = .returned (.int .i64 0) ∧ w = w' := by simpa using when_c false n w
end Go.Proofs.YtddedckehllkoaaDoor

/- shift.Plan at one road, its parts: the step of a trail, the trails. Written by genpla.py. -/
namespace Go.Proofs.YtddedckehllkoaaDoor
open Go.RowKit

/-- A lane: from, to, what a car costs. -/
abbrev Ln := Int × Int × Int
def lnC (x : Ln) : Array Value := #[.int .i64 x.1, .int .i64 x.2.1, .int .i64 x.2.2]
theorem lnC_sz (x : Ln) : (lnC x).size = 3 := rfl
theorem ln_info (x : Ln) : (Tryd.prog.info? 197).map (·.size) = some (lnC x).size := (by kernel_rfl : (Tryd.prog.info? 197).map (·.size) = some 3)
/-- A trail: is it there, is it begun, what it costs, its last lane. -/
abbrev Tl := Bool × Bool × Int × Int
def tlC (x : Tl) : Array Value := #[.bool x.1, .bool x.2.1, .int .i64 x.2.2.1, .int .i64 x.2.2.2]
theorem tlC_sz (x : Tl) : (tlC x).size = 4 := rfl
theorem tl_info (x : Tl) : (Tryd.prog.info? 226).map (·.size) = some (tlC x).size := (by kernel_rfl : (Tryd.prog.info? 226).map (·.size) = some 4)

/-- A step over the one lane, the first time. -/
theorem step1_c (pv pa g : Nat) (w w0 : World) (hv : Bk w pv 223 #[.slice (some ⟨g, 0, none⟩) 2 2]) (ha : Bk w pa 4 #[.bool false])
    (hB : Bk w g 226 #[.bool true, .bool true, .int .i64 0, .int .i64 0, .bool false, .bool false, .int .i64 0, .int .i64 0]) (hG : G w0 w none) (h1 : w0.heap.size ≤ g) (h2 : w0.heap.size ≤ pa) (hpg : pv ≠ g) (hpa : pa ≠ g) (hpp : pv ≠ pa) :
    Calls Tryd.prog 168 #[.int .i64 0, .int .i64 1, .int .i64 4, .int .i64 0, .pointer (some ⟨pv, 0, none⟩), .pointer (some ⟨pa, 0, none⟩)] w fun e w' => e = .returned (.tuple #[]) ∧
      Bk w' pv 223 #[.slice (some ⟨g, 0, none⟩) 2 2] ∧ Bk w' pa 4 #[.bool true] ∧ Bk w' g 226 #[.bool true, .bool true, .int .i64 0, .int .i64 0, .bool true, .bool false, .int .i64 4, .int .i64 0] ∧ G w0 w' none := by
  have a0 : w.cell? ⟨pv, 0, none⟩ = some (.slice (some ⟨g, 0, none⟩) 2 2) := hv.cell 0
  have b2 : w.cell? ⟨g, 2, none⟩ = some (.int .i64 0) := hB.cell 2
  go_enter Tryd.func168, Tryd.ntmps168
  go_upto_region 1 with fail
  have hv1 := hv.alloc (.cells #[.bool true, .bool false, .int .i64 4, .int .i64 0] 226)
  have ha1 := ha.alloc (.cells #[.bool true, .bool false, .int .i64 4, .int .i64 0] 226)
  have hB1 := hB.alloc (.cells #[.bool true, .bool false, .int .i64 4, .int .i64 0] 226)
  have hN1 := Bk.new w 226 #[.bool true, .bool false, .int .i64 4, .int .i64 0]
  have hG1 := hG.alloc (.cells #[.bool true, .bool false, .int .i64 4, .int .i64 0] 226)
  clear hv ha hB hG a0 b2
  generalize w.alloc (.cells #[.bool true, .bool false, .int .i64 4, .int .i64 0] 226) = w1 at hv1 ha1 hB1 hN1 hG1 ⊢
  generalize w.heap.size = n at hN1 ⊢
  have a0 : w1.cell? ⟨pv, 0, none⟩ = some (.slice (some ⟨g, 0, none⟩) 2 2) := hv1.cell 0
  have b0 : w1.cell? ⟨g, 0, none⟩ = some (.bool true) := hB1.cell 0
  have b4 : w1.cell? ⟨g, 4, none⟩ = some (.bool false) := hB1.cell 4
  go_quiet (fail)
  replace hv1 := hv1.drewN nq
  replace ha1 := ha1.drewN nq
  replace hB1 := hB1.drewN nq
  replace hN1 := hN1.drewN nq
  replace hG1 := hG1.drewN nq
  clear a0 b0 b4
  generalize w1.drewN nq = w2 at hv1 ha1 hB1 hN1 hG1 ⊢
  have a0 : w2.cell? ⟨pv, 0, none⟩ = some (.slice (some ⟨g, 0, none⟩) 2 2) := hv1.cell 0
  have n0 : w2.cell? ⟨n, 0, none⟩ = some (.bool true) := hN1.cell 0
  have n1 : w2.cell? ⟨n, 1, none⟩ = some (.bool false) := hN1.cell 1
  have n2 : w2.cell? ⟨n, 2, none⟩ = some (.int .i64 4) := hN1.cell 2
  have n3 : w2.cell? ⟨n, 3, none⟩ = some (.int .i64 0) := hN1.cell 3
  have b4 : w2.cell? ⟨g, 4, none⟩ = some (.bool false) := hB1.cell 4
  have f4 : w2.frozen? ⟨g, 4, none⟩ = false := hB1.free 4
  have b5 : w2.cell? ⟨g, 5, none⟩ = some (.bool false) := hB1.cell 5
  have f5 : w2.frozen? ⟨g, 5, none⟩ = false := hB1.free 5
  have b6 : w2.cell? ⟨g, 6, none⟩ = some (.int .i64 0) := hB1.cell 6
  have f6 : w2.frozen? ⟨g, 6, none⟩ = false := hB1.free 6
  have b7 : w2.cell? ⟨g, 7, none⟩ = some (.int .i64 0) := hB1.cell 7
  have f7 : w2.frozen? ⟨g, 7, none⟩ = false := hB1.free 7
  have p0 : w2.cell? ⟨pa, 0, none⟩ = some (.bool false) := ha1.cell 0
  have pf : w2.frozen? ⟨pa, 0, none⟩ = false := ha1.free 0
  have hpga := hpa.symm
  go_wp2_with fail
  go_end0
  exact ⟨rfl, ((((hv1.far (p := ⟨g, 4, none⟩) hpg _).far (p := ⟨g, 5, none⟩) hpg _).far (p := ⟨g, 6, none⟩) hpg _).far (p := ⟨g, 7, none⟩) hpg _).far (p := ⟨pa, 0, none⟩) hpp _, ((((ha1.far (p := ⟨g, 4, none⟩) hpa _).far (p := ⟨g, 5, none⟩) hpa _).far (p := ⟨g, 6, none⟩) hpa _).far (p := ⟨g, 7, none⟩) hpa _).set 0 _, ((((hB1.set 4 _).set 5 _).set 6 _).set 7 _).far (p := ⟨pa, 0, none⟩) hpga _, ((((hG1.setCell (p := ⟨g, 4, none⟩) (.inl h1) _).setCell (p := ⟨g, 5, none⟩) (.inl h1) _).setCell (p := ⟨g, 6, none⟩) (.inl h1) _).setCell (p := ⟨g, 7, none⟩) (.inl h1) _).setCell (p := ⟨pa, 0, none⟩) (.inl h2) _⟩
/-- A step over the one lane, the second time: nothing is cheaper. -/
theorem step2_c (pv pa g : Nat) (w w0 : World) (hv : Bk w pv 223 #[.slice (some ⟨g, 0, none⟩) 2 2]) (ha : Bk w pa 4 #[.bool false])
    (hB : Bk w g 226 #[.bool true, .bool true, .int .i64 0, .int .i64 0, .bool true, .bool false, .int .i64 4, .int .i64 0]) (hG : G w0 w none) (h1 : w0.heap.size ≤ g) (h2 : w0.heap.size ≤ pa) (hpg : pv ≠ g) (hpa : pa ≠ g) (hpp : pv ≠ pa) :
    Calls Tryd.prog 168 #[.int .i64 0, .int .i64 1, .int .i64 4, .int .i64 0, .pointer (some ⟨pv, 0, none⟩), .pointer (some ⟨pa, 0, none⟩)] w fun e w' => e = .returned (.tuple #[]) ∧
      Bk w' pv 223 #[.slice (some ⟨g, 0, none⟩) 2 2] ∧ Bk w' pa 4 #[.bool false] ∧ Bk w' g 226 #[.bool true, .bool true, .int .i64 0, .int .i64 0, .bool true, .bool false, .int .i64 4, .int .i64 0] ∧ G w0 w' none := by
  have a0 : w.cell? ⟨pv, 0, none⟩ = some (.slice (some ⟨g, 0, none⟩) 2 2) := hv.cell 0
  have b2 : w.cell? ⟨g, 2, none⟩ = some (.int .i64 0) := hB.cell 2
  go_enter Tryd.func168, Tryd.ntmps168
  go_upto_region 1 with fail
  have hv1 := hv.alloc (.cells #[.bool true, .bool false, .int .i64 4, .int .i64 0] 226)
  have ha1 := ha.alloc (.cells #[.bool true, .bool false, .int .i64 4, .int .i64 0] 226)
  have hB1 := hB.alloc (.cells #[.bool true, .bool false, .int .i64 4, .int .i64 0] 226)
  have hN1 := Bk.new w 226 #[.bool true, .bool false, .int .i64 4, .int .i64 0]
  have hG1 := hG.alloc (.cells #[.bool true, .bool false, .int .i64 4, .int .i64 0] 226)
  clear hv ha hB hG a0 b2
  generalize w.alloc (.cells #[.bool true, .bool false, .int .i64 4, .int .i64 0] 226) = w1 at hv1 ha1 hB1 hN1 hG1 ⊢
  generalize w.heap.size = n at hN1 ⊢
  have a0 : w1.cell? ⟨pv, 0, none⟩ = some (.slice (some ⟨g, 0, none⟩) 2 2) := hv1.cell 0
  have b0 : w1.cell? ⟨g, 0, none⟩ = some (.bool true) := hB1.cell 0
  have b4 : w1.cell? ⟨g, 4, none⟩ = some (.bool true) := hB1.cell 4
  have b6 : w1.cell? ⟨g, 6, none⟩ = some (.int .i64 4) := hB1.cell 6
  have n2 : w1.cell? ⟨n, 2, none⟩ = some (.int .i64 4) := hN1.cell 2
  go_quiet (fail)
  go_wp2_with fail
  go_end0
  exact ⟨rfl, hv1.drewN nq, ha1.drewN nq, hB1.drewN nq, hG1.drewN nq⟩
set_option maxRecDepth 100000 in
set_option maxHeartbeats 4000000 in
theorem trails_c (vl vn vo : Value) (w : World) (hl : RdI w vl [1, -1]) (hn : RdR w 3 lnC vn [(0, 1, 4)]) (ho : RdI w vo [0]) :
    Calls Tryd.prog 160 #[vl, vn, vo] w fun e w' => ∃ g, e = .returned (.slice (some ⟨g, 0, none⟩) 2 2) ∧ w.heap.size ≤ g ∧ Bk w' g 226 #[.bool true, .bool true, .int .i64 0, .int .i64 0, .bool true, .bool false, .int .i64 4, .int .i64 0] ∧ G w w' none := by
  obtain ⟨al, cl, rfl, -, -⟩ := RdR.form hl
  obtain ⟨an, cn, rfl, -, -⟩ := RdR.form hn
  obtain ⟨ao, co, rfl, -, -⟩ := RdR.form ho
  have hmk : ∀ w : World, (Instr.makeSlice 223 (.int .i64 2) (.int .i64 2)).run Tryd.prog w = .ok (.slice (some ⟨w.heap.size, 0, none⟩) 2 2) (w.alloc (.cells #[.bool false, .bool false, .int .i64 0, .int .i64 0, .bool false, .bool false, .int .i64 0, .int .i64 0] 226)) := fun w => by kernel_rfl
  have hl0 := hl
  have hG0 := G.refl w none
  obtain ⟨bl, ol, rfl, hbl, -⟩ := RdR.elem inC_sz hl hG0 (k := 0) (p := 1) rfl
  obtain ⟨bn, on, rfl, hbn, -⟩ := RdR.elem lnC_sz hn hG0 (k := 0) (p := (0, 1, 4)) rfl
  obtain ⟨bo, oo, rfl, hbo, -⟩ := RdR.elem inC_sz ho hG0 (k := 0) (p := 0) rfl
  have hcell : Hid (∀ w', G w w' none → w'.cell? ⟨bl, ol, none⟩ = some (.int .i64 1) ∧ w'.cell? ⟨bl, ol + 1, none⟩ = some (.int .i64 (-1)) ∧ w'.cell? ⟨bn, on, none⟩ = some (.int .i64 0) ∧ w'.cell? ⟨bn, on + 1, none⟩ = some (.int .i64 1) ∧ w'.cell? ⟨bn, on + 2, none⟩ = some (.int .i64 4) ∧ w'.cell? ⟨bo, oo, none⟩ = some (.int .i64 0)) := Lib.hid (fun w' h => by
    have e0 := RdR.cell inC_sz hl h (k := 0) (p := 1) rfl 0 (.int .i64 1) rfl
    have e1 := RdR.cell inC_sz hl h (k := 1) (p := -1) rfl 0 (.int .i64 (-1)) rfl
    have e2 := RdR.cell lnC_sz hn h (k := 0) (p := (0, 1, 4)) rfl 0 (.int .i64 0) rfl
    have e3 := RdR.cell lnC_sz hn h (k := 0) (p := (0, 1, 4)) rfl 1 (.int .i64 1) rfl
    have e4 := RdR.cell lnC_sz hn h (k := 0) (p := (0, 1, 4)) rfl 2 (.int .i64 4) rfl
    have e5 := RdR.cell inC_sz ho h (k := 0) (p := 0) rfl 0 (.int .i64 0) rfl
    simp only [Nat.zero_mul, Nat.one_mul, Nat.add_zero] at e0 e1 e2 e3 e4 e5
    exact ⟨e0, e1, e2, e3, e4, e5⟩)
  clear hl hl0 hn ho hbl hbn hbo
  go_enter Tryd.func160, Tryd.ntmps160
  go_upto_region 2 with fail
  have hB := (Bk.new w 226 #[.bool false, .bool false, .int .i64 0, .int .i64 0, .bool false, .bool false, .int .i64 0, .int .i64 0]).alloc (.cells #[.slice (some ⟨w.heap.size, 0, none⟩) 2 2] 223)
  have hv : Bk ((w.alloc (.cells #[.bool false, .bool false, .int .i64 0, .int .i64 0, .bool false, .bool false, .int .i64 0, .int .i64 0] 226)).alloc (.cells #[.slice (some ⟨w.heap.size, 0, none⟩) 2 2] 223)) (w.heap.size + 1) 223 #[.slice (some ⟨w.heap.size, 0, none⟩) 2 2] := Bk.newAt (by simp) _ _
  have hG1 := (hG0.alloc (.cells #[.bool false, .bool false, .int .i64 0, .int .i64 0, .bool false, .bool false, .int .i64 0, .int .i64 0] 226)).alloc (.cells #[.slice (some ⟨w.heap.size, 0, none⟩) 2 2] 223)
  generalize (w.alloc (.cells #[.bool false, .bool false, .int .i64 0, .int .i64 0, .bool false, .bool false, .int .i64 0, .int .i64 0] 226)).alloc (.cells #[.slice (some ⟨w.heap.size, 0, none⟩) 2 2] 223) = w1 at hB hv hG1 ⊢
  have hgs : w.heap.size ≤ w.heap.size := Nat.le_refl _
  obtain ⟨g, hg⟩ : ∃ g, w.heap.size = g := ⟨_, rfl⟩
  have hgs : w.heap.size ≤ g := by omega
  rw [hg] at hB hv ⊢
  clear hg
  obtain ⟨l0, l1, -, -, -, -⟩ := hcell.out _ hG1
  have v0 : w1.cell? ⟨g + 1, 0, none⟩ = some (.slice (some ⟨g, 0, none⟩) 2 2) := hv.cell 0
  have b0 : w1.cell? ⟨g, 0, none⟩ = some (.bool false) := hB.cell 0
  have fb0 : w1.frozen? ⟨g, 0, none⟩ = false := hB.free 0
  have b1 : w1.cell? ⟨g, 1, none⟩ = some (.bool false) := hB.cell 1
  have fb1 : w1.frozen? ⟨g, 1, none⟩ = false := hB.free 1
  have b2 : w1.cell? ⟨g, 2, none⟩ = some (.int .i64 0) := hB.cell 2
  have fb2 : w1.frozen? ⟨g, 2, none⟩ = false := hB.free 2
  have b3 : w1.cell? ⟨g, 3, none⟩ = some (.int .i64 0) := hB.cell 3
  have fb3 : w1.frozen? ⟨g, 3, none⟩ = false := hB.free 3
  go_wp2_with fail
  refine wp_loop_rounds 3 ?_
  rw [rounds_succ]
  go_wp2_with fail
  clear l0 l1 v0 b0 fb0 b1 fb1 b2 fb2 b3 fb3
  replace hB := ((((hB).set 0 (.bool true)).set 1 (.bool true)).set 2 (.int .i64 0)).set 3 (.int .i64 0)
  replace hv := ((((hv).far (p := ⟨g, 0, none⟩) (show g + 1 ≠ g by omega) (.bool true)).far (p := ⟨g, 1, none⟩) (show g + 1 ≠ g by omega) (.bool true)).far (p := ⟨g, 2, none⟩) (show g + 1 ≠ g by omega) (.int .i64 0)).far (p := ⟨g, 3, none⟩) (show g + 1 ≠ g by omega) (.int .i64 0)
  replace hG1 := ((((hG1).setCell (p := ⟨g, 0, none⟩) (.inl hgs) (.bool true)).setCell (p := ⟨g, 1, none⟩) (.inl hgs) (.bool true)).setCell (p := ⟨g, 2, none⟩) (.inl hgs) (.int .i64 0)).setCell (p := ⟨g, 3, none⟩) (.inl hgs) (.int .i64 0)
  generalize (((w1.setCell ⟨g, 0, none⟩ (.bool true)).setCell ⟨g, 1, none⟩ (.bool true)).setCell ⟨g, 2, none⟩ (.int .i64 0)).setCell ⟨g, 3, none⟩ (.int .i64 0) = w2 at hB hv hG1 ⊢
  obtain ⟨l0, l1, -, -, -, -⟩ := hcell.out _ hG1
  have v0 : w2.cell? ⟨g + 1, 0, none⟩ = some (.slice (some ⟨g, 0, none⟩) 2 2) := hv.cell 0
  have b4 : w2.cell? ⟨g, 4, none⟩ = some (.bool false) := hB.cell 4
  have fb4 : w2.frozen? ⟨g, 4, none⟩ = false := hB.free 4
  have b5 : w2.cell? ⟨g, 5, none⟩ = some (.bool false) := hB.cell 5
  have fb5 : w2.frozen? ⟨g, 5, none⟩ = false := hB.free 5
  have b6 : w2.cell? ⟨g, 6, none⟩ = some (.int .i64 0) := hB.cell 6
  have fb6 : w2.frozen? ⟨g, 6, none⟩ = false := hB.free 6
  have b7 : w2.cell? ⟨g, 7, none⟩ = some (.int .i64 0) := hB.cell 7
  have fb7 : w2.frozen? ⟨g, 7, none⟩ = false := hB.free 7
  rw [rounds_succ]
  go_wp2_with fail
  clear l0 l1 v0 b4 fb4 b5 fb5 b6 fb6 b7 fb7
  replace hB := ((((hB).set 4 (.bool false)).set 5 (.bool false)).set 6 (.int .i64 0)).set 7 (.int .i64 0)
  replace hv := ((((hv).far (p := ⟨g, 4, none⟩) (show g + 1 ≠ g by omega) (.bool false)).far (p := ⟨g, 5, none⟩) (show g + 1 ≠ g by omega) (.bool false)).far (p := ⟨g, 6, none⟩) (show g + 1 ≠ g by omega) (.int .i64 0)).far (p := ⟨g, 7, none⟩) (show g + 1 ≠ g by omega) (.int .i64 0)
  replace hG1 := ((((hG1).setCell (p := ⟨g, 4, none⟩) (.inl hgs) (.bool false)).setCell (p := ⟨g, 5, none⟩) (.inl hgs) (.bool false)).setCell (p := ⟨g, 6, none⟩) (.inl hgs) (.int .i64 0)).setCell (p := ⟨g, 7, none⟩) (.inl hgs) (.int .i64 0)
  generalize (((w2.setCell ⟨g, 4, none⟩ (.bool false)).setCell ⟨g, 5, none⟩ (.bool false)).setCell ⟨g, 6, none⟩ (.int .i64 0)).setCell ⟨g, 7, none⟩ (.int .i64 0) = w3 at hB hv hG1 ⊢
  rw [rounds_succ]
  go_wp2_with fail
  have ha := Bk.new w3 4 #[.bool true]
  have hga : g < w3.heap.size := hB.lt
  have hva : g + 1 < w3.heap.size := hv.lt
  replace hB := hB.alloc (.cells #[.bool true] 4)
  replace hv := hv.alloc (.cells #[.bool true] 4)
  replace hG1 := hG1.alloc (.cells #[.bool true] 4)
  generalize w3.alloc (.cells #[.bool true] 4) = wa at ha hB hv hG1 ⊢
  generalize w3.heap.size = pa at ha hga hva ⊢
  refine wp_loop_rounds 3 ?_
  rw [rounds_succ]
  have a0 : wa.cell? ⟨pa, 0, none⟩ = some (.bool true) := ha.cell 0
  have fa0 : wa.frozen? ⟨pa, 0, none⟩ = false := ha.free 0
  go_wp2_with fail
  clear a0 fa0
  replace hB := (hB).far (p := ⟨pa, 0, none⟩) (show g ≠ pa by omega) (.bool false)
  replace hv := (hv).far (p := ⟨pa, 0, none⟩) (show g + 1 ≠ pa by omega) (.bool false)
  replace ha := (ha).set 0 (.bool false)
  replace hG1 := (hG1).setCell (p := ⟨pa, 0, none⟩) (.inl (show w.heap.size ≤ pa by omega)) (.bool false)
  generalize wa.setCell ⟨pa, 0, none⟩ (.bool false) = w4 at hB hv ha hG1 ⊢
  obtain ⟨-, -, n0, n1, n2, -⟩ := hcell.out _ hG1
  refine wp_loop_rounds 2 ?_
  rw [rounds_succ]
  go_wp2_with fail
  refine (step1_c (g + 1) pa g _ w (hv.alloc _) (ha.alloc _) (hB.alloc _) (hG1.alloc _) hgs (by omega) (by omega) (by omega) (by omega)).mono ?_; rintro e ws1 ⟨rfl, hv', ha', hB', hG'⟩
  clear hv ha hB hG1 n0 n1 n2
  obtain ⟨-, -, -, -, -, o0⟩ := hcell.out _ hG'
  go_wp2_with fail
  rw [rounds_succ]
  go_wp2_with fail
  have hv := hv'
  have ha := ha'
  have hB := hB'
  have hG1 := hG'
  clear hv' ha' hB' hG' o0
  rw [rounds_succ]
  have a0 : ws1.cell? ⟨pa, 0, none⟩ = some (.bool true) := ha.cell 0
  have fa0 : ws1.frozen? ⟨pa, 0, none⟩ = false := ha.free 0
  go_wp2_with fail
  clear a0 fa0
  replace hB := (hB).far (p := ⟨pa, 0, none⟩) (show g ≠ pa by omega) (.bool false)
  replace hv := (hv).far (p := ⟨pa, 0, none⟩) (show g + 1 ≠ pa by omega) (.bool false)
  replace ha := (ha).set 0 (.bool false)
  replace hG1 := (hG1).setCell (p := ⟨pa, 0, none⟩) (.inl (show w.heap.size ≤ pa by omega)) (.bool false)
  generalize ws1.setCell ⟨pa, 0, none⟩ (.bool false) = w5 at hB hv ha hG1 ⊢
  obtain ⟨-, -, n0, n1, n2, -⟩ := hcell.out _ hG1
  refine wp_loop_rounds 2 ?_
  rw [rounds_succ]
  go_wp2_with fail
  refine (step2_c (g + 1) pa g _ w (hv.alloc _) (ha.alloc _) (hB.alloc _) (hG1.alloc _) hgs (by omega) (by omega) (by omega) (by omega)).mono ?_; rintro e ws2 ⟨rfl, hv', ha', hB', hG'⟩
  clear hv ha hB hG1 n0 n1 n2
  obtain ⟨-, -, -, -, -, o0⟩ := hcell.out _ hG'
  go_wp2_with fail
  rw [rounds_succ]
  go_wp2_with fail
  have hv := hv'
  have ha := ha'
  have hB := hB'
  have hG1 := hG'
  clear hv' ha' hB' hG' o0
  rw [rounds_succ]
  have a0 : ws2.cell? ⟨pa, 0, none⟩ = some (.bool false) := ha.cell 0
  have v0 : ws2.cell? ⟨g + 1, 0, none⟩ = some (.slice (some ⟨g, 0, none⟩) 2 2) := hv.cell 0
  go_wp2_with fail
  go_ret
  exact ⟨g, rfl, hgs, hB, hG1⟩
end Go.Proofs.YtddedckehllkoaaDoor

/- shift.Plan at one road: follow, leastLoads, leastCost, firstLoad. Written by genplb.py. -/
namespace Go.Proofs.YtddedckehllkoaaDoor
open Go.RowKit

/-- slices.Clone of ints. -/
theorem cloneIn_c (v : Value) (l : List Int) (w : World) (hr : RdI w v l) (hn : l.length ≤ 2000) :
    Calls Tryd.prog 140 #[v] w fun e w' => ∃ v', e = .returned v' ∧ OwnIn w' w.heap.size v' l ∧ G w w' none := by
  have q22 : ∀ (w : World) (a : Option Addr) (n c n' c' : Nat), (binOp .eql 22 (.slice a n c) (.slice none n' c')).run Tryd.prog w = .ok (.bool a.isNone) w := fun w a n c n' c' => Lib.run_eql_slice_nil w _ _ a n c n' c' Tryd.underlying22
  obtain ⟨a, cap, rfl, h1, h2, h3, h4, h5⟩ := hr
  cases a with
  | none =>
    obtain ⟨hz, hc⟩ := h4 rfl
    subst hc
    have hl : l = [] := List.eq_nil_of_length_eq_zero hz
    subst hl
    clear h1 h2 h3 h4 h5 hn
    go_enter Tryd.func140, Tryd.ntmps140
    go_wp2_with fail
    go_ret
    exact ⟨_, rfl, World.ownsRow_nil _ _ _ _, G.refl _ _⟩
  | some ad =>
    obtain ⟨b, o, s⟩ := ad
    obtain ⟨e1, e2, e3⟩ := h5 _ rfl
    dsimp only at e1 e2 e3
    subst e1
    obtain ⟨i0, hi, hz0, hz1, hz2⟩ := info_parts in_rowOk.row
    have E3 := Lib.hid e3
    clear e3 h4 h5
    go_enter Tryd.func140, Tryd.ntmps140
    go_wp2_with (at_builtin; refine wpList_append_own _ rfl _ _ 22 rfl w.heap.size 3 i0 (.int .i64 0) 1 8 Tryd.underlying22 hi hz0 hz1 hz2 rfl (by omega) _ _ _ rfl (World.ownsRow_made w #[] 0 (Nat.le_refl _) (Nat.zero_le _) (by simp)) ⟨b, o, none⟩ l.length cap (rowL inC l) rfl ?qc1 ?qc2 ?qc3 ?qc4 ?qc5 ?qc6 ?_)
    case qc1 => exact h3
    case qc2 =>
      intro j u hj
      rw [add_at]
      exact Lib.cell?_alloc_some _ (E3.out j u hj)
    case qc3 => exact rowL_one in_rowOk.one l
    case qc4 => unfold maxLen; omega
    case qc5 => omega
    case qc6 => simp
    intro v' w1 hown hgrow hnil
    go_wp2_with fail
    go_ret
    refine ⟨v', rfl, by simpa using hown, ?_⟩
    exact ((G.refl w none).alloc _).other hgrow (fun k hk => by simp [Value.ownBlock] at hk; omega)
theorem neg_c (n : Int) (w : World) : Calls Tryd.prog 159 #[.int .i64 n] w fun e w' => e = .returned (.bool (decide (n < 0))) ∧ w = w' := by
  go_enter Tryd.func159, Tryd.ntmps159
  go_wp2_with fail
  go_ret
  exact ⟨rfl, rfl⟩
set_option maxRecDepth 100000 in
set_option maxHeartbeats 2000000 in
theorem indexA_c (v : Value) (w : World) (hl : RdI w v [1, -1]) :
    Calls Tryd.prog 167 #[v, .func (.func 159) #[] #[]] w fun e w' => e = .returned (.int .i64 (1)) ∧ w' = w := by
  have hG0 := G.refl w none
  obtain ⟨al, cl, rfl, -, -⟩ := RdR.form hl
  obtain ⟨bl, ol, rfl, hbl, -⟩ := RdR.elem inC_sz hl hG0 (k := 0) (p := 1) rfl
  have e0 := RdR.cell inC_sz hl hG0 (k := 0) (p := 1) rfl 0 (.int .i64 (1)) rfl
  have e1 := RdR.cell inC_sz hl hG0 (k := 1) (p := -1) rfl 0 (.int .i64 (-1)) rfl
  simp only [Nat.zero_mul, Nat.one_mul, Nat.add_zero] at e0 e1
  clear hl
  go_enter Tryd.func167, Tryd.ntmps167
  go_wp2_with fail
  refine wp_loop_rounds 3 ?_
  rw [rounds_succ]
  go_wp2_with fail
  refine (neg_c _ _).mono ?_; rintro e w' ⟨rfl, rfl⟩
  go_wp2_with fail
  rw [rounds_succ]
  go_wp2_with fail
  refine (neg_c _ _).mono ?_; rintro e w' ⟨rfl, rfl⟩
  go_wp2_with fail
  go_ret
  exact ⟨rfl, rfl⟩
theorem contA_c (v : Value) (w : World) (hl : RdI w v [1, -1]) :
    Calls Tryd.prog 158 #[v, .func (.func 159) #[] #[]] w fun e w' => e = .returned (.bool true) ∧ w' = w := by
  go_enter Tryd.func158, Tryd.ntmps158
  go_wp2_with fail
  refine (indexA_c v w hl).mono ?_; rintro e w' ⟨rfl, rfl⟩
  go_wp2_with fail
  go_ret
  exact ⟨rfl, rfl⟩
set_option maxRecDepth 100000 in
set_option maxHeartbeats 2000000 in
theorem indexB_c (v : Value) (w : World) (hl : RdI w v [0, 0]) :
    Calls Tryd.prog 167 #[v, .func (.func 159) #[] #[]] w fun e w' => e = .returned (.int .i64 (-1)) ∧ w' = w := by
  have hG0 := G.refl w none
  obtain ⟨al, cl, rfl, -, -⟩ := RdR.form hl
  obtain ⟨bl, ol, rfl, hbl, -⟩ := RdR.elem inC_sz hl hG0 (k := 0) (p := 0) rfl
  have e0 := RdR.cell inC_sz hl hG0 (k := 0) (p := 0) rfl 0 (.int .i64 (0)) rfl
  have e1 := RdR.cell inC_sz hl hG0 (k := 1) (p := 0) rfl 0 (.int .i64 (0)) rfl
  simp only [Nat.zero_mul, Nat.one_mul, Nat.add_zero] at e0 e1
  clear hl
  go_enter Tryd.func167, Tryd.ntmps167
  go_wp2_with fail
  refine wp_loop_rounds 3 ?_
  rw [rounds_succ]
  go_wp2_with fail
  refine (neg_c _ _).mono ?_; rintro e w' ⟨rfl, rfl⟩
  go_wp2_with fail
  rw [rounds_succ]
  go_wp2_with fail
  refine (neg_c _ _).mono ?_; rintro e w' ⟨rfl, rfl⟩
  go_wp2_with fail
  rw [rounds_succ]
  go_wp2_with fail
  go_ret
  exact ⟨rfl, rfl⟩
theorem contB_c (v : Value) (w : World) (hl : RdI w v [0, 0]) :
    Calls Tryd.prog 158 #[v, .func (.func 159) #[] #[]] w fun e w' => e = .returned (.bool false) ∧ w' = w := by
  go_enter Tryd.func158, Tryd.ntmps158
  go_wp2_with fail
  refine (indexB_c v w hl).mono ?_; rintro e w' ⟨rfl, rfl⟩
  go_wp2_with fail
  go_ret
  exact ⟨rfl, rfl⟩
set_option maxRecDepth 100000 in
set_option maxHeartbeats 4000000 in
theorem follow_c (gt gl go bn on cl cn co : Nat) (w : World) (t0 : w.cell? ⟨gt, 1, none⟩ = some (.bool true)) (t1 : w.cell? ⟨gt, 4 + 1, none⟩ = some (.bool false)) (t2 : w.cell? ⟨gt, 4 + 3, none⟩ = some (.int .i64 0))
    (n0 : w.cell? ⟨bn, on, none⟩ = some (.int .i64 0)) (n1 : w.cell? ⟨bn, on + 1, none⟩ = some (.int .i64 1))
    (l0 : w.cell? ⟨gl, 0, none⟩ = some (.int .i64 1)) (l1 : w.cell? ⟨gl, 1, none⟩ = some (.int .i64 (-1))) (fl0 : w.frozen? ⟨gl, 0, none⟩ = false) (fl1 : w.frozen? ⟨gl, 1, none⟩ = false)
    (o0 : w.cell? ⟨go, 0, none⟩ = some (.int .i64 0)) (fo0 : w.frozen? ⟨go, 0, none⟩ = false)
    (d1 : gt ≠ gl) (d2 : gt ≠ go) (d3 : bn ≠ gl) (d4 : bn ≠ go) (d5 : gl ≠ go) :
    Calls Tryd.prog 161 #[.int .i64 1, .slice (some ⟨gt, 0, none⟩) 2 2, .slice (some ⟨gl, 0, none⟩) 2 cl, .slice (some ⟨bn, on, none⟩) 1 cn, .slice (some ⟨go, 0, none⟩) 1 co] w fun e w' => e = .returned (.tuple #[]) ∧
      w' = ((w.setCell ⟨gl, 1, none⟩ (.int .i64 0)).setCell ⟨go, 0, none⟩ (.int .i64 1)).setCell ⟨gl, 0, none⟩ (.int .i64 0) := by
  have d6 := d5.symm
  go_enter Tryd.func161, Tryd.ntmps161
  go_wp2_with fail
  refine wp_loop_rounds 3 ?_
  rw [rounds_succ]
  go_wp2_with fail
  rw [rounds_succ]
  go_wp2_with fail
  go_end0
  exact ⟨rfl, rfl⟩
set_option maxRecDepth 100000 in
set_option maxHeartbeats 4000000 in
theorem leastA_c (vl vn : Value) (w : World) (hl : RdI w vl [1, -1]) (hn : RdR w 3 lnC vn [(0, 1, 4)]) :
    Calls Tryd.prog 139 #[vl, vn] w fun e w' => ∃ go, e = .returned (.tuple #[.slice (some ⟨go, 0, none⟩) 1 1, .bool true]) ∧ Bk w' go 3 #[.int .i64 1] ∧ G w w' none := by
  have hmk : ∀ w : World, (Instr.makeSlice 22 (.int .i64 1) (.int .i64 1)).run Tryd.prog w = .ok (.slice (some ⟨w.heap.size, 0, none⟩) 1 1) (w.alloc (.cells #[.int .i64 0] 3)) := fun w => by kernel_rfl
  obtain ⟨al, cl, rfl, -, -⟩ := RdR.form hl
  obtain ⟨an, cn, rfl, -, -⟩ := RdR.form hn
  have CC := Lib.hid (fun w' (p : RdI w' (.slice al [1, -1].length cl) [1, -1]) => cloneIn_c _ _ w' p (by simp))
  go_enter Tryd.func139, Tryd.ntmps139
  go_upto_region 1 with fail
  go_cut [0, 6] from 11 (fun s0 s6 w' => ∃ go, OwnIn w' w.heap.size s0 [1, -1] ∧ s6 = .slice (some ⟨go, 0, none⟩) 1 1 ∧ Bk w' go 3 #[.int .i64 0] ∧ (∀ k, s0.ownBlock = some k → k ≠ go) ∧ w.heap.size ≤ go ∧ G w w' none)
  case first =>
    have hG := (G.refl w none).drew
    refine wp_region_held_drew (S := (fun _ : World => True)) (by kernel_rfl) ?_ (fun hHeld => ?_)
    · exact trivial
    generalize w.drew = wd at hHeld hG ⊢
    refine wpAnyH_take (i := 0) (oi := { dst := some 11, op := Op.move (Operand.tmp 0), type := 22, pos := _, after := #[], guard := none }) (v := ?_) rfl (by kernel_rfl) (by kernel_rfl) (by kernel_rfl) (fun _ _ _ h => h) (Or.inl ⟨by rfl, ?_⟩) (by assumption) ?_
    rotate_left
    · (intro w hSw; clear hSw; (go_simp <;> with_reducible rfl))
    try simp only [Act.put, List.setIfInBounds_toArray, List.set_cons_zero, List.set_cons_succ]
    refine wpAnyH_take (i := 2) (oi := { dst := some 13, op := Op.move (Operand.tmp 1), type := 193, pos := _, after := #[], guard := none }) (v := ?_) rfl (by kernel_rfl) (by kernel_rfl) (by kernel_rfl) (fun _ _ _ h => h) (Or.inl ⟨by rfl, ?_⟩) (by assumption) ?_
    rotate_left
    · (intro w hSw; clear hSw; (go_simp <;> with_reducible rfl))
    try simp only [Act.put, List.setIfInBounds_toArray, List.set_cons_zero, List.set_cons_succ]
    refine wpAnyH_take (i := 3) (oi := { dst := some 14, op := Op.call { callee := Callee.builtin Builtin.len, args := #[Operand.tmp 13], argTypes := #[193] }, type := 3, pos := _, after := #[{ on := 2, ground := Ground.data }], guard := none }) (v := ?_) rfl (by kernel_rfl) (by kernel_rfl) (by kernel_rfl) (fun _ _ _ h => h) (Or.inl ⟨by rfl, ?_⟩) (by assumption) ?_
    rotate_left
    · (intro w hSw; clear hSw; (go_simp <;> with_reducible rfl))
    try simp only [Act.put, List.setIfInBounds_toArray, List.set_cons_zero, List.set_cons_succ]
    refine wpAnyH_ready (rs := [1, 4]) (by kernel_rfl) (by simp) ?_
    refine (AllReadyH.cons (o := { dst := some 12, op := Op.call { callee := Callee.value (Operand.func 140), args := #[Operand.tmp 11], argTypes := #[22] }, type := 22, pos := _, after := #[{ on := 0, ground := Ground.data }], guard := none }) rfl (fun K hK => ?_) (AllReadyH.cons (o := { dst := some 15, op := Op.makeSlice 22 (Operand.tmp 14) (Operand.tmp 14), type := 22, pos := _, after := #[{ on := 3, ground := Ground.data }, { on := 3, ground := Ground.data }], guard := none }) rfl (fun K hK => ?_) AllReadyH.nil))
    · go_simp
      refine (CC.out _ (hl.quiet hG)).mono ?_
      rintro e wc1 ⟨vL, rfl, hL, hh⟩
      replace hL := OwnX.down hL hG.size
      replace hG := hG.trans hh
      clear hh
      refine hK.out _ _ ?_ (fun hHeld => ?_)
      · exact trivial
      clear hK K
      try simp only [Act.put, List.setIfInBounds_toArray, List.set_cons_zero, List.set_cons_succ]
      refine wpAnyH_take (i := 5) (oi := { dst := some 0, op := Op.assign (Operand.tmp 12), type := 22, pos := _, after := #[{ on := 1, ground := Ground.data }, { on := 1, ground := Ground.chain }, { on := 0, ground := Ground.phase }, { on := 1, ground := Ground.phase }, { on := 2, ground := Ground.textOnly Departure.lateStores }, { on := 3, ground := Ground.textOnly Departure.lateStoresUnsure }, { on := 4, ground := Ground.textOnly Departure.lateStoresUnsure }], guard := none }) (v := ?_) rfl (by kernel_rfl) (by kernel_rfl) (by kernel_rfl) (fun _ _ _ h => h) (Or.inl ⟨by rfl, ?_⟩) (by assumption) ?_
      rotate_left
      · (intro w hSw; clear hSw; (go_simp <;> with_reducible rfl))
      try simp only [Act.put, List.setIfInBounds_toArray, List.set_cons_zero, List.set_cons_succ]
      refine wpAnyH_ready (rs := [4]) (by kernel_rfl) (by simp) ?_
      refine (AllReadyH.cons (o := { dst := some 15, op := Op.makeSlice 22 (Operand.tmp 14) (Operand.tmp 14), type := 22, pos := _, after := #[{ on := 3, ground := Ground.data }, { on := 3, ground := Ground.data }], guard := none }) rfl (fun K hK => ?_) AllReadyH.nil)
      go_simp
      have hO := Bk.new wc1 3 #[.int .i64 0]
      have hgo : ∀ k, vL.ownBlock = some k → k ≠ wc1.heap.size := fun k e => by have h1 := (World.ownsRow.lt hL k e).2; omega
      replace hL := OwnX.alloc hL (.cells #[.int .i64 0] 3)
      have hgs : w.heap.size ≤ wc1.heap.size := hG.size
      replace hG := hG.alloc (.cells #[.int .i64 0] 3)
      generalize wc1.alloc (.cells #[.int .i64 0] 3) = wm2 at hO hL hG ⊢
      generalize wc1.heap.size = go at hO hgo hgs ⊢
      refine hK.out _ _ ?_ (fun hHeld => ?_)
      · exact trivial
      clear hK K
      try simp only [Act.put, List.setIfInBounds_toArray, List.set_cons_zero, List.set_cons_succ]
      refine wpAnyH_take (i := 6) (oi := { dst := some 6, op := Op.assign (Operand.tmp 15), type := 22, pos := _, after := #[{ on := 4, ground := Ground.data }, { on := 5, ground := Ground.chain }, { on := 0, ground := Ground.phase }, { on := 1, ground := Ground.phase }, { on := 2, ground := Ground.phase }, { on := 3, ground := Ground.phase }, { on := 4, ground := Ground.phase }, { on := 5, ground := Ground.phase }], guard := none }) (v := ?_) rfl (by kernel_rfl) (by kernel_rfl) (by kernel_rfl) (fun _ _ _ h => h) (Or.inl ⟨by rfl, ?_⟩) (by assumption) ?_
      rotate_left
      · (intro w hSw; clear hSw; (go_simp <;> with_reducible rfl))
      try simp only [Act.put, List.setIfInBounds_toArray, List.set_cons_zero, List.set_cons_succ]
      refine wpAnyH_done (by kernel_rfl) ?_ _
      clear hHeld
      go_wp2_with fail
      go_meet
      case rel => exact ⟨go, hL, rfl, hO, hgo, hgs, hG⟩
    · go_simp
      have hO := Bk.new wd 3 #[.int .i64 0]
      have hgs : w.heap.size ≤ wd.heap.size := hG.size
      replace hG := hG.alloc (.cells #[.int .i64 0] 3)
      have hgl : wd.heap.size < (wd.alloc (.cells #[.int .i64 0] 3)).heap.size := hO.lt
      generalize wd.alloc (.cells #[.int .i64 0] 3) = wm1 at hO hG hgl ⊢
      generalize wd.heap.size = go at hO hgs hgl ⊢
      refine hK.out _ _ ?_ (fun hHeld => ?_)
      · exact trivial
      clear hK K
      try simp only [Act.put, List.setIfInBounds_toArray, List.set_cons_zero, List.set_cons_succ]
      refine wpAnyH_ready (rs := [1]) (by kernel_rfl) (by simp) ?_
      refine (AllReadyH.cons (o := { dst := some 12, op := Op.call { callee := Callee.value (Operand.func 140), args := #[Operand.tmp 11], argTypes := #[22] }, type := 22, pos := _, after := #[{ on := 0, ground := Ground.data }], guard := none }) rfl (fun K hK => ?_) AllReadyH.nil)
      go_simp
      refine (CC.out _ (hl.quiet hG)).mono ?_
      rintro e wc2 ⟨vL, rfl, hL, hh⟩
      have hgo : ∀ k, vL.ownBlock = some k → k ≠ go := fun k e => by have h1 := (World.ownsRow.lt hL k e).1; omega
      have hO := hO.quiet hh
      replace hG := hG.trans hh
      clear hh
      replace hL := OwnX.down (b := w.heap.size) hL (by omega)
      refine hK.out _ _ ?_ (fun hHeld => ?_)
      · exact trivial
      clear hK K
      try simp only [Act.put, List.setIfInBounds_toArray, List.set_cons_zero, List.set_cons_succ]
      refine wpAnyH_take (i := 5) (oi := { dst := some 0, op := Op.assign (Operand.tmp 12), type := 22, pos := _, after := #[{ on := 1, ground := Ground.data }, { on := 1, ground := Ground.chain }, { on := 0, ground := Ground.phase }, { on := 1, ground := Ground.phase }, { on := 2, ground := Ground.textOnly Departure.lateStores }, { on := 3, ground := Ground.textOnly Departure.lateStoresUnsure }, { on := 4, ground := Ground.textOnly Departure.lateStoresUnsure }], guard := none }) (v := ?_) rfl (by kernel_rfl) (by kernel_rfl) (by kernel_rfl) (fun _ _ _ h => h) (Or.inl ⟨by rfl, ?_⟩) (by assumption) ?_
      rotate_left
      · (intro w hSw; clear hSw; (go_simp <;> with_reducible rfl))
      try simp only [Act.put, List.setIfInBounds_toArray, List.set_cons_zero, List.set_cons_succ]
      refine wpAnyH_take (i := 6) (oi := { dst := some 6, op := Op.assign (Operand.tmp 15), type := 22, pos := _, after := #[{ on := 4, ground := Ground.data }, { on := 5, ground := Ground.chain }, { on := 0, ground := Ground.phase }, { on := 1, ground := Ground.phase }, { on := 2, ground := Ground.phase }, { on := 3, ground := Ground.phase }, { on := 4, ground := Ground.phase }, { on := 5, ground := Ground.phase }], guard := none }) (v := ?_) rfl (by kernel_rfl) (by kernel_rfl) (by kernel_rfl) (fun _ _ _ h => h) (Or.inl ⟨by rfl, ?_⟩) (by assumption) ?_
      rotate_left
      · (intro w hSw; clear hSw; (go_simp <;> with_reducible rfl))
      try simp only [Act.put, List.setIfInBounds_toArray, List.set_cons_zero, List.set_cons_succ]
      refine wpAnyH_done (by kernel_rfl) ?_ _
      clear hHeld
      go_wp2_with fail
      go_meet
      case rel => exact ⟨go, hL, rfl, hO, hgo, hgs, hG⟩
  case rest =>
  obtain ⟨go, hL, rfl, hO, hgo, hgs, hG⟩ := hcut
  clear CC
  obtain ⟨gl, cL, cur, e, hBL⟩ := OwnX.form0 hL (by simp)
  subst e
  have hgl : w.heap.size ≤ gl := OwnX.low hL gl rfl
  have hlo : gl ≠ go := hgo gl rfl
  have hRL := Rd.of_owns hL
  have hlL := hBL.lt
  have hlO := hO.lt
  obtain ⟨bn, on, rfl, hbn, -⟩ := RdR.elem lnC_sz (hn.quiet hG) (G.refl _ none) (k := 0) (p := (0, 1, 4)) rfl
  have hbnw : bn < w.heap.size := by
    obtain ⟨b9, o9, e9, h9, -⟩ := RdR.elem lnC_sz hn (G.refl w none) (k := 0) (p := (0, 1, 4)) rfl
    injection e9 with e9; injection e9 with e9 _; omega
  go_wp2_with fail
  refine wp_loop_rounds 2 ?_
  rw [rounds_succ]
  go_wp2_with fail
  refine (contA_c _ _ hRL).mono ?_; rintro e wx ⟨rfl, rfl⟩
  go_wp2_with fail
  refine (trails_c _ _ _ _ hRL (hn.quiet hG) (hO.rd 1 1 rfl (by omega))).mono ?_; rintro e wt ⟨gt, rfl, hgt, hT, hh⟩
  replace hL := OwnX.quiet hL hh
  replace hBL := hBL.quiet hh
  replace hO := hO.quiet hh
  replace hG := hG.trans hh
  have e1 : gt ≠ gl := by omega
  have e2 : gt ≠ go := by omega
  have e3 : bn ≠ gl := by omega
  have e4 : bn ≠ go := by omega
  clear hh hgo hRL hlL hlO hgt hbnw hbn
  go_wp2_with fail
  refine wp_loop_rounds 3 ?_
  rw [rounds_succ]
  have t0 : wt.cell? ⟨gt, 0, none⟩ = some (.bool true) := hT.cell 0
  have t1 : wt.cell? ⟨gt, 1, none⟩ = some (.bool true) := hT.cell 1
  have t2 : wt.cell? ⟨gt, 2, none⟩ = some (.int .i64 0) := hT.cell 2
  have t3 : wt.cell? ⟨gt, 3, none⟩ = some (.int .i64 0) := hT.cell 3
  go_upto_region 8 with fail
  have hN := Bk.new wt 226 #[.bool true, .bool true, .int .i64 0, .int .i64 0]
  replace hT := hT.alloc (.cells #[.bool true, .bool true, .int .i64 0, .int .i64 0] 226)
  replace hL := OwnX.alloc hL (.cells #[.bool true, .bool true, .int .i64 0, .int .i64 0] 226)
  replace hBL := hBL.alloc (.cells #[.bool true, .bool true, .int .i64 0, .int .i64 0] 226)
  replace hO := hO.alloc (.cells #[.bool true, .bool true, .int .i64 0, .int .i64 0] 226)
  replace hG := hG.alloc (.cells #[.bool true, .bool true, .int .i64 0, .int .i64 0] 226)
  clear t0 t1 t2 t3
  generalize wt.alloc (.cells #[.bool true, .bool true, .int .i64 0, .int .i64 0] 226) = wn0 at hN hT hL hBL hO hG ⊢
  generalize wt.heap.size = n0 at hN ⊢
  have l0 : wn0.cell? ⟨gl, 0, none⟩ = some (.int .i64 (1)) := by
    have h := RdR.cell inC_sz (Rd.of_owns hL) (G.refl _ none) (k := 0) (p := 1) rfl 0 (.int .i64 (1)) rfl
    simpa using h
  have m0 : wn0.cell? ⟨n0, 0, none⟩ = some (.bool true) := hN.cell 0
  go_quiet (fail)
  replace hT := hT.drewN nq
  replace hL := OwnX.quiet hL ((G.refl _ none).drewN nq)
  replace hBL := hBL.drewN nq
  replace hO := hO.drewN nq
  replace hG := hG.drewN nq
  clear hN l0 m0
  generalize wn0.drewN nq = wq0 at hT hL hBL hO hG ⊢
  go_wp2_with fail
  rw [rounds_succ]
  have t0 : wq0.cell? ⟨gt, 4, none⟩ = some (.bool true) := hT.cell 4
  have t1 : wq0.cell? ⟨gt, 5, none⟩ = some (.bool false) := hT.cell 5
  have t2 : wq0.cell? ⟨gt, 6, none⟩ = some (.int .i64 4) := hT.cell 6
  have t3 : wq0.cell? ⟨gt, 7, none⟩ = some (.int .i64 0) := hT.cell 7
  go_upto_region 8 with fail
  have hN := Bk.new wq0 226 #[.bool true, .bool false, .int .i64 4, .int .i64 0]
  replace hT := hT.alloc (.cells #[.bool true, .bool false, .int .i64 4, .int .i64 0] 226)
  replace hL := OwnX.alloc hL (.cells #[.bool true, .bool false, .int .i64 4, .int .i64 0] 226)
  replace hBL := hBL.alloc (.cells #[.bool true, .bool false, .int .i64 4, .int .i64 0] 226)
  replace hO := hO.alloc (.cells #[.bool true, .bool false, .int .i64 4, .int .i64 0] 226)
  replace hG := hG.alloc (.cells #[.bool true, .bool false, .int .i64 4, .int .i64 0] 226)
  clear t0 t1 t2 t3
  generalize wq0.alloc (.cells #[.bool true, .bool false, .int .i64 4, .int .i64 0] 226) = wn1 at hN hT hL hBL hO hG ⊢
  generalize wq0.heap.size = n1 at hN ⊢
  have l0 : wn1.cell? ⟨gl, 1, none⟩ = some (.int .i64 (-1)) := by
    have h := RdR.cell inC_sz (Rd.of_owns hL) (G.refl _ none) (k := 1) (p := -1) rfl 0 (.int .i64 (-1)) rfl
    simpa using h
  have m0 : wn1.cell? ⟨n1, 0, none⟩ = some (.bool true) := hN.cell 0
  go_quiet (fail)
  replace hT := hT.drewN nq
  replace hL := OwnX.quiet hL ((G.refl _ none).drewN nq)
  replace hBL := hBL.drewN nq
  replace hO := hO.drewN nq
  replace hG := hG.drewN nq
  clear hN l0 m0
  generalize wn1.drewN nq = wq1 at hT hL hBL hO hG ⊢
  go_wp2_with fail
  rw [rounds_succ]
  go_wp2_with fail
  have l0 := RdR.cell inC_sz (Rd.of_owns hL) (G.refl _ none) (k := 0) (p := 1) rfl 0 (.int .i64 1) rfl
  have l1 := RdR.cell inC_sz (Rd.of_owns hL) (G.refl _ none) (k := 1) (p := -1) rfl 0 (.int .i64 (-1)) rfl
  have n0 := RdR.cell lnC_sz hn hG (k := 0) (p := (0, 1, 4)) rfl 0 (.int .i64 0) rfl
  have n1 := RdR.cell lnC_sz hn hG (k := 0) (p := (0, 1, 4)) rfl 1 (.int .i64 1) rfl
  simp only [Nat.zero_mul, Nat.one_mul, Nat.add_zero, Nat.zero_add] at l0 l1 n0 n1
  refine (follow_c gt gl go bn on cL cn 1 wq1 (hT.cell 1) (hT.cell 5) (hT.cell 7) n0 n1 l0 l1 (hBL.free 0) (hBL.free 1) (hO.cell 0) (hO.free 0) e1 e2 e3 e4 hlo).mono ?_; rintro e wf ⟨rfl, rfl⟩
  clear l0 l1 n0 n1 hT
  have k1 := OwnX.set inC_sz hL (k := 1) (p := -1) rfl (q := 0) 0 (.int .i64 0) (by omega) rfl
  have k2 := OwnX.far (l := [1, 0]) k1 (p := ⟨go, 0, none⟩) (fun e => by injection e with e; exact hlo e.symm) (.int .i64 1)
  have k3 := OwnX.set (l := [1, 0]) inC_sz k2 (k := 0) (p := 1) rfl (q := 0) 0 (.int .i64 0) (by omega) rfl
  have k4 : RdI (((wq1.setCell ⟨gl, 1, none⟩ (.int .i64 0)).setCell ⟨go, 0, none⟩ (.int .i64 1)).setCell ⟨gl, 0, none⟩ (.int .i64 0)) (.slice (some ⟨gl, 0, none⟩) 2 cL) [0, 0] := Rd.of_owns k3
  replace hO := ((hO.far (p := ⟨gl, 1, none⟩) hlo.symm (.int .i64 0)).set 0 (.int .i64 1)).far (p := ⟨gl, 0, none⟩) hlo.symm (.int .i64 0)
  replace hG := ((hG.setCell (p := ⟨gl, 1, none⟩) (.inl hgl) (.int .i64 0)).setCell (p := ⟨go, 0, none⟩) (.inl hgs) (.int .i64 1)).setCell (p := ⟨gl, 0, none⟩) (.inl hgl) (.int .i64 0)
  clear k1 k2 k3 hL hBL
  generalize ((wq1.setCell ⟨gl, 1, none⟩ (.int .i64 0)).setCell ⟨go, 0, none⟩ (.int .i64 1)).setCell ⟨gl, 0, none⟩ (.int .i64 0) = wz at k4 hO hG ⊢
  go_wp2_with fail
  rw [rounds_succ]
  go_wp2_with fail
  refine (contB_c _ _ k4).mono ?_; rintro e wx ⟨rfl, rfl⟩
  go_wp2_with fail
  go_ret2
  exact ⟨go, rfl, hO, hG⟩
set_option maxRecDepth 100000 in
set_option maxHeartbeats 4000000 in
theorem leastB_c (vl vn : Value) (w : World) (hl : RdI w vl [0, 0]) (hn : RdR w 3 lnC vn []) :
    Calls Tryd.prog 139 #[vl, vn] w fun e w' => ∃ go, e = .returned (.tuple #[.slice (some ⟨go, 0, none⟩) 0 0, .bool true]) ∧ Bk w' go 3 #[] ∧ G w w' none := by
  have hmk : ∀ w : World, (Instr.makeSlice 22 (.int .i64 0) (.int .i64 0)).run Tryd.prog w = .ok (.slice (some ⟨w.heap.size, 0, none⟩) 0 0) (w.alloc (.cells #[] 3)) := fun w => by kernel_rfl
  obtain ⟨al, cl, rfl, -, -⟩ := RdR.form hl
  obtain ⟨an, cn, rfl, -, -⟩ := RdR.form hn
  have CC := Lib.hid (fun w' (p : RdI w' (.slice al [0, 0].length cl) [0, 0]) => cloneIn_c _ _ w' p (by simp))
  go_enter Tryd.func139, Tryd.ntmps139
  go_upto_region 1 with fail
  go_cut [0, 6] from 11 (fun s0 s6 w' => ∃ go, OwnIn w' w.heap.size s0 [0, 0] ∧ s6 = .slice (some ⟨go, 0, none⟩) 0 0 ∧ Bk w' go 3 #[] ∧ (∀ k, s0.ownBlock = some k → k ≠ go) ∧ w.heap.size ≤ go ∧ G w w' none)
  case first =>
    have hG := (G.refl w none).drew
    refine wp_region_held_drew (S := (fun _ : World => True)) (by kernel_rfl) ?_ (fun hHeld => ?_)
    · exact trivial
    generalize w.drew = wd at hHeld hG ⊢
    refine wpAnyH_take (i := 0) (oi := { dst := some 11, op := Op.move (Operand.tmp 0), type := 22, pos := _, after := #[], guard := none }) (v := ?_) rfl (by kernel_rfl) (by kernel_rfl) (by kernel_rfl) (fun _ _ _ h => h) (Or.inl ⟨by rfl, ?_⟩) (by assumption) ?_
    rotate_left
    · (intro w hSw; clear hSw; (go_simp <;> with_reducible rfl))
    try simp only [Act.put, List.setIfInBounds_toArray, List.set_cons_zero, List.set_cons_succ]
    refine wpAnyH_take (i := 2) (oi := { dst := some 13, op := Op.move (Operand.tmp 1), type := 193, pos := _, after := #[], guard := none }) (v := ?_) rfl (by kernel_rfl) (by kernel_rfl) (by kernel_rfl) (fun _ _ _ h => h) (Or.inl ⟨by rfl, ?_⟩) (by assumption) ?_
    rotate_left
    · (intro w hSw; clear hSw; (go_simp <;> with_reducible rfl))
    try simp only [Act.put, List.setIfInBounds_toArray, List.set_cons_zero, List.set_cons_succ]
    refine wpAnyH_take (i := 3) (oi := { dst := some 14, op := Op.call { callee := Callee.builtin Builtin.len, args := #[Operand.tmp 13], argTypes := #[193] }, type := 3, pos := _, after := #[{ on := 2, ground := Ground.data }], guard := none }) (v := ?_) rfl (by kernel_rfl) (by kernel_rfl) (by kernel_rfl) (fun _ _ _ h => h) (Or.inl ⟨by rfl, ?_⟩) (by assumption) ?_
    rotate_left
    · (intro w hSw; clear hSw; (go_simp <;> with_reducible rfl))
    try simp only [Act.put, List.setIfInBounds_toArray, List.set_cons_zero, List.set_cons_succ]
    refine wpAnyH_ready (rs := [1, 4]) (by kernel_rfl) (by simp) ?_
    refine (AllReadyH.cons (o := { dst := some 12, op := Op.call { callee := Callee.value (Operand.func 140), args := #[Operand.tmp 11], argTypes := #[22] }, type := 22, pos := _, after := #[{ on := 0, ground := Ground.data }], guard := none }) rfl (fun K hK => ?_) (AllReadyH.cons (o := { dst := some 15, op := Op.makeSlice 22 (Operand.tmp 14) (Operand.tmp 14), type := 22, pos := _, after := #[{ on := 3, ground := Ground.data }, { on := 3, ground := Ground.data }], guard := none }) rfl (fun K hK => ?_) AllReadyH.nil))
    · go_simp
      refine (CC.out _ (hl.quiet hG)).mono ?_
      rintro e wc1 ⟨vL, rfl, hL, hh⟩
      replace hL := OwnX.down hL hG.size
      replace hG := hG.trans hh
      clear hh
      refine hK.out _ _ ?_ (fun hHeld => ?_)
      · exact trivial
      clear hK K
      try simp only [Act.put, List.setIfInBounds_toArray, List.set_cons_zero, List.set_cons_succ]
      refine wpAnyH_take (i := 5) (oi := { dst := some 0, op := Op.assign (Operand.tmp 12), type := 22, pos := _, after := #[{ on := 1, ground := Ground.data }, { on := 1, ground := Ground.chain }, { on := 0, ground := Ground.phase }, { on := 1, ground := Ground.phase }, { on := 2, ground := Ground.textOnly Departure.lateStores }, { on := 3, ground := Ground.textOnly Departure.lateStoresUnsure }, { on := 4, ground := Ground.textOnly Departure.lateStoresUnsure }], guard := none }) (v := ?_) rfl (by kernel_rfl) (by kernel_rfl) (by kernel_rfl) (fun _ _ _ h => h) (Or.inl ⟨by rfl, ?_⟩) (by assumption) ?_
      rotate_left
      · (intro w hSw; clear hSw; (go_simp <;> with_reducible rfl))
      try simp only [Act.put, List.setIfInBounds_toArray, List.set_cons_zero, List.set_cons_succ]
      refine wpAnyH_ready (rs := [4]) (by kernel_rfl) (by simp) ?_
      refine (AllReadyH.cons (o := { dst := some 15, op := Op.makeSlice 22 (Operand.tmp 14) (Operand.tmp 14), type := 22, pos := _, after := #[{ on := 3, ground := Ground.data }, { on := 3, ground := Ground.data }], guard := none }) rfl (fun K hK => ?_) AllReadyH.nil)
      go_simp
      have hO := Bk.new wc1 3 #[]
      have hgo : ∀ k, vL.ownBlock = some k → k ≠ wc1.heap.size := fun k e => by have h1 := (World.ownsRow.lt hL k e).2; omega
      replace hL := OwnX.alloc hL (.cells #[] 3)
      have hgs : w.heap.size ≤ wc1.heap.size := hG.size
      replace hG := hG.alloc (.cells #[] 3)
      generalize wc1.alloc (.cells #[] 3) = wm2 at hO hL hG ⊢
      generalize wc1.heap.size = go at hO hgo hgs ⊢
      refine hK.out _ _ ?_ (fun hHeld => ?_)
      · exact trivial
      clear hK K
      try simp only [Act.put, List.setIfInBounds_toArray, List.set_cons_zero, List.set_cons_succ]
      refine wpAnyH_take (i := 6) (oi := { dst := some 6, op := Op.assign (Operand.tmp 15), type := 22, pos := _, after := #[{ on := 4, ground := Ground.data }, { on := 5, ground := Ground.chain }, { on := 0, ground := Ground.phase }, { on := 1, ground := Ground.phase }, { on := 2, ground := Ground.phase }, { on := 3, ground := Ground.phase }, { on := 4, ground := Ground.phase }, { on := 5, ground := Ground.phase }], guard := none }) (v := ?_) rfl (by kernel_rfl) (by kernel_rfl) (by kernel_rfl) (fun _ _ _ h => h) (Or.inl ⟨by rfl, ?_⟩) (by assumption) ?_
      rotate_left
      · (intro w hSw; clear hSw; (go_simp <;> with_reducible rfl))
      try simp only [Act.put, List.setIfInBounds_toArray, List.set_cons_zero, List.set_cons_succ]
      refine wpAnyH_done (by kernel_rfl) ?_ _
      clear hHeld
      go_wp2_with fail
      go_meet
      case rel => exact ⟨go, hL, rfl, hO, hgo, hgs, hG⟩
    · go_simp
      have hO := Bk.new wd 3 #[]
      have hgs : w.heap.size ≤ wd.heap.size := hG.size
      replace hG := hG.alloc (.cells #[] 3)
      have hgl : wd.heap.size < (wd.alloc (.cells #[] 3)).heap.size := hO.lt
      generalize wd.alloc (.cells #[] 3) = wm1 at hO hG hgl ⊢
      generalize wd.heap.size = go at hO hgs hgl ⊢
      refine hK.out _ _ ?_ (fun hHeld => ?_)
      · exact trivial
      clear hK K
      try simp only [Act.put, List.setIfInBounds_toArray, List.set_cons_zero, List.set_cons_succ]
      refine wpAnyH_ready (rs := [1]) (by kernel_rfl) (by simp) ?_
      refine (AllReadyH.cons (o := { dst := some 12, op := Op.call { callee := Callee.value (Operand.func 140), args := #[Operand.tmp 11], argTypes := #[22] }, type := 22, pos := _, after := #[{ on := 0, ground := Ground.data }], guard := none }) rfl (fun K hK => ?_) AllReadyH.nil)
      go_simp
      refine (CC.out _ (hl.quiet hG)).mono ?_
      rintro e wc2 ⟨vL, rfl, hL, hh⟩
      have hgo : ∀ k, vL.ownBlock = some k → k ≠ go := fun k e => by have h1 := (World.ownsRow.lt hL k e).1; omega
      have hO := hO.quiet hh
      replace hG := hG.trans hh
      clear hh
      replace hL := OwnX.down (b := w.heap.size) hL (by omega)
      refine hK.out _ _ ?_ (fun hHeld => ?_)
      · exact trivial
      clear hK K
      try simp only [Act.put, List.setIfInBounds_toArray, List.set_cons_zero, List.set_cons_succ]
      refine wpAnyH_take (i := 5) (oi := { dst := some 0, op := Op.assign (Operand.tmp 12), type := 22, pos := _, after := #[{ on := 1, ground := Ground.data }, { on := 1, ground := Ground.chain }, { on := 0, ground := Ground.phase }, { on := 1, ground := Ground.phase }, { on := 2, ground := Ground.textOnly Departure.lateStores }, { on := 3, ground := Ground.textOnly Departure.lateStoresUnsure }, { on := 4, ground := Ground.textOnly Departure.lateStoresUnsure }], guard := none }) (v := ?_) rfl (by kernel_rfl) (by kernel_rfl) (by kernel_rfl) (fun _ _ _ h => h) (Or.inl ⟨by rfl, ?_⟩) (by assumption) ?_
      rotate_left
      · (intro w hSw; clear hSw; (go_simp <;> with_reducible rfl))
      try simp only [Act.put, List.setIfInBounds_toArray, List.set_cons_zero, List.set_cons_succ]
      refine wpAnyH_take (i := 6) (oi := { dst := some 6, op := Op.assign (Operand.tmp 15), type := 22, pos := _, after := #[{ on := 4, ground := Ground.data }, { on := 5, ground := Ground.chain }, { on := 0, ground := Ground.phase }, { on := 1, ground := Ground.phase }, { on := 2, ground := Ground.phase }, { on := 3, ground := Ground.phase }, { on := 4, ground := Ground.phase }, { on := 5, ground := Ground.phase }], guard := none }) (v := ?_) rfl (by kernel_rfl) (by kernel_rfl) (by kernel_rfl) (fun _ _ _ h => h) (Or.inl ⟨by rfl, ?_⟩) (by assumption) ?_
      rotate_left
      · (intro w hSw; clear hSw; (go_simp <;> with_reducible rfl))
      try simp only [Act.put, List.setIfInBounds_toArray, List.set_cons_zero, List.set_cons_succ]
      refine wpAnyH_done (by kernel_rfl) ?_ _
      clear hHeld
      go_wp2_with fail
      go_meet
      case rel => exact ⟨go, hL, rfl, hO, hgo, hgs, hG⟩
  case rest =>
  obtain ⟨go, hL, rfl, hO, hgo, hgs, hG⟩ := hcut
  clear CC
  obtain ⟨aL, cL, rfl, -, -⟩ := RdR.form (c := inC) (Rd.of_owns hL)
  have hRL := Rd.of_owns hL
  clear hL hgo
  go_wp2_with fail
  refine wp_loop_rounds 1 ?_
  rw [rounds_succ]
  go_wp2_with fail
  refine (contB_c _ _ hRL).mono ?_; rintro e wx ⟨rfl, rfl⟩
  go_wp2_with fail
  go_ret2
  exact ⟨go, rfl, hO, hG⟩
set_option maxRecDepth 100000 in
set_option maxHeartbeats 4000000 in
theorem costA_c (vl vn : Value) (w : World) (hl : RdI w vl [1, -1]) (hn : RdR w 3 lnC vn [(0, 1, 4)]) :
    Calls Tryd.prog 130 #[vl, vn] w fun e w' => e = .returned (.tuple #[.int .i64 4, .bool true]) ∧ G w w' none := by
  have CL := Lib.hid (leastA_c vl vn w hl hn)
  obtain ⟨an, cn, rfl, -, -⟩ := RdR.form hn
  obtain ⟨bn, on, rfl, hbn, -⟩ := RdR.elem lnC_sz hn (G.refl _ none) (k := 0) (p := (0, 1, 4)) rfl
  go_enter Tryd.func130, Tryd.ntmps130
  go_wp2_with fail
  refine CL.out.mono ?_; rintro e w1 ⟨go, rfl, hO, hG⟩
  have n2 := RdR.cell lnC_sz hn hG (k := 0) (p := (0, 1, 4)) rfl 2 (.int .i64 4) rfl
  have o0 : w1.cell? ⟨go, 0, none⟩ = some (.int .i64 1) := hO.cell 0
  simp only [Nat.zero_mul, Nat.zero_add] at n2
  go_wp2_with fail
  refine wp_loop_rounds 2 ?_
  rw [rounds_succ]
  go_wp2_with fail
  rw [rounds_succ]
  go_wp2_with fail
  go_ret2
  exact ⟨rfl, hG⟩
set_option maxRecDepth 100000 in
set_option maxHeartbeats 4000000 in
theorem costB_c (vl vn : Value) (w : World) (hl : RdI w vl [0, 0]) (hn : RdR w 3 lnC vn []) :
    Calls Tryd.prog 130 #[vl, vn] w fun e w' => e = .returned (.tuple #[.int .i64 0, .bool true]) ∧ G w w' none := by
  have CL := Lib.hid (leastB_c vl vn w hl hn)
  obtain ⟨an, cn, rfl, -, -⟩ := RdR.form hn
  go_enter Tryd.func130, Tryd.ntmps130
  go_wp2_with fail
  refine CL.out.mono ?_; rintro e w1 ⟨go, rfl, hO, hG⟩
  go_wp2_with fail
  refine wp_loop_rounds 1 ?_
  rw [rounds_succ]
  go_wp2_with fail
  go_ret2
  exact ⟨rfl, hG⟩
end Go.Proofs.YtddedckehllkoaaDoor

/- shift.Plan at one road: needs, roads, lanes. Written by genpld.py. -/
namespace Go.Proofs.YtddedckehllkoaaDoor
open Go.RowKit

/-- A need: station, how many. -/
abbrev Ne := ByteArray × Int
def neC (x : Ne) : Array Value := #[.string x.1, .int .i64 x.2]
theorem neC_sz (x : Ne) : (neC x).size = 2 := rfl
theorem ne_info (x : Ne) : (Tryd.prog.info? 161).map (·.size) = some (neC x).size := (by kernel_rfl : (Tryd.prog.info? 161).map (·.size) = some 2)
def NeOk (l : List Ne) : Prop := ∀ x ∈ l, Small x.1
def neT (x : Ne) : Bool := inB x.2 (-20) 20
def neErr (b : ByteArray) : List Ne → Int
  | [] => 0
  | x :: r => if keyB x.1 = false then 5 else if leB x.1 b = true then 7 else if neT x = false then 1 else neErr x.1 r
def neE (l : List Ne) : Int := if 10 < l.length then 2 else neErr ⟨#[]⟩ l
def NeRel (w : World) (l : List Ne) (v i : Value) (wr : World) : Prop :=
  ∃ (k : Nat) (b : ByteArray), k ≤ l.length ∧ i = .int .i64 k ∧ v = .string b ∧ neErr ⟨#[]⟩ l = neErr b (l.drop k) ∧ G w wr none
theorem neRow {W w : World} {bb bo n cap : Nat} {l : List Ne} (h : RdR W 2 neC (.slice (some ⟨bb, bo, none⟩) n cap) l) (hG : G W w none) {k : Nat} {p : Ne} (hp : l[k]? = some p) :
    ∀ j v, (neC p).toList[j]? = some v → w.cell? ((⟨bb, bo + k * 2, none⟩ : Addr).add j) = some v := fun j v hv => by
  rw [add_at]
  exact RdR.cell neC_sz h hG hp j v hv
set_option maxRecDepth 100000 in
set_option maxHeartbeats 4000000 in
theorem checkNeeds_c (v : Value) (l : List Ne) (w : World) (hr : RdR w 2 neC v l) (hl : NeOk l) (hn : l.length ≤ 1000) :
    Calls Tryd.prog 137 #[v] w fun e w' => e = .returned (.int .i64 (neE l)) ∧ G w w' none := by
  have HR := Lib.hid hr
  obtain ⟨a, cap, rfl, hcap, hm⟩ := RdR.form hr
  clear hr
  by_cases h30 : 10 < l.length
  · have H := Lib.hid (show neE l = 2 by simp [neE, h30])
    go_enter Tryd.func137, Tryd.ntmps137
    go_wp2_with fail
    go_ret
    exact ⟨by rw [H.out]; rfl, G.refl _ _⟩
  · have H := Lib.hid (show neE l = neErr ⟨#[]⟩ l by simp [neE, h30])
    go_enter Tryd.func137, Tryd.ntmps137
    go_wp2_with fail
    go_loopw [3, 11] (NeRel w l) (fun _ i _ => l.length - (intOf i).toNat)
    case atStart => exact ⟨0, ⟨#[]⟩, by omega, rfl, rfl, rfl, G.refl _ _⟩
    case round =>
      obtain ⟨k, b, hkl, rfl, rfl, heq, hG⟩ := hrel
      have HE := Lib.hid heq
      clear heq
      by_cases hk : k < l.length
      · obtain ⟨p, hp⟩ : ∃ p, l[k]? = some p := ⟨_, List.getElem?_eq_getElem hk⟩
        have hdrop : l.drop k = p :: l.drop (k + 1) := by rw [List.drop_eq_getElem_cons hk, ← (List.getElem?_eq_some_iff.1 hp).2]
        have hs1 := hl p (List.mem_of_getElem? hp)
        obtain ⟨bb, bo, rfl, -, -⟩ := RdR.elem neC_sz HR.out hG hp
        have HW := Lib.hid (neRow HR.out hG hp)
        unfold Small at hs1
        have HS : Hid (neErr b (l.drop k) = if keyB p.1 = false then 5 else if leB p.1 b = true then 7 else if neT p = false then 1 else neErr p.1 (l.drop (k + 1))) := Lib.hid (by rw [hdrop]; rfl)
        have HK := Lib.hid hk
        have hB5 : Bk (wr.alloc (.cells #[.string p.1, .int .i64 p.2] 161)) wr.heap.size 161 (neC p) := Bk.new _ _ _
        have hG5 := hG.alloc (.cells #[.string p.1, .int .i64 p.2] 161)
        clear hdrop hp hG
        go_wp2_with (refine wpList_load_at rfl 161 _ rfl ⟨bb, bo + k * 2, none⟩ rfl #[.string p.1, .int .i64 p.2] _ HW.out Tryd.underlying161 rfl (ne_info p) ?_)
        generalize wr.alloc (.cells #[.string p.1, .int .i64 p.2] 161) = w5 at hB5 hG5 ⊢
        generalize wr.heap.size = g at hB5 ⊢
        refine (isKey_c _ _ hs1).mono ?_; rintro e w1 ⟨rfl, rfl⟩
        have c0 : w5.cell? ⟨g, 0, none⟩ = some (.string p.1) := hB5.cell 0
        have c1 : w5.cell? ⟨g, 1, none⟩ = some (.int .i64 p.2) := hB5.cell 1
        cases hkb : keyB p.1 with
        | false =>
          have HF : Hid (neE l = 5) := Lib.hid (by rw [H.out, HE.out, HS.out, if_pos hkb])
          clear hkb
          go_wp2_with fail
          go_ret
          exact ⟨by rw [HF.out]; rfl, hG5⟩
        | true =>
          have HKB := Lib.hid hkb
          clear hkb
          cases hle : leB p.1 b with
          | true =>
            have HF : Hid (neE l = 7) := Lib.hid (by rw [H.out, HE.out, HS.out, if_neg (by simp [HKB.out]), if_pos hle])
            unfold leB at hle
            go_wp2_with fail
            go_ret
            exact ⟨by rw [HF.out]; rfl, hG5⟩
          | false =>
            have HS2 : Hid (neErr ⟨#[]⟩ l = if neT p = false then 1 else neErr p.1 (l.drop (k + 1))) := Lib.hid (by rw [HE.out, HS.out, if_neg (by simp [HKB.out]), if_neg (by simp [hle])])
            unfold leB at hle
            clear HS HE
            go_wp2_with fail
            refine (within_c p.2 (-20) 20 _).mono ?_; rintro e w' ⟨rfl, rfl⟩
            cases k0 : inB p.2 (-20) 20 with
            | false =>
              have HF : Hid (neE l = 1) := Lib.hid (by rw [H.out, HS2.out, if_pos (by simp [neT, k0])])
              clear k0
              go_wp2_with fail
              go_ret
              exact ⟨by rw [HF.out]; rfl, hG5⟩
            | true =>
              have K0 := Lib.hid k0
              clear k0
              have HF : Hid (neErr ⟨#[]⟩ l = neErr p.1 (l.drop (k + 1))) := Lib.hid (by rw [HS2.out, if_neg (by simp [neT, K0.out])])
              go_wp2_with fail
              go_roundw
              case rel => exact ⟨k + 1, p.1, by omega, by go_num, rfl, HF.out, hG5⟩
              case measure => have := HK.out; simp [intOf]; omega
      · obtain rfl : k = l.length := by omega
        have HE2 : Hid (neE l = 0) := Lib.hid (by rw [H.out, HE.out, List.drop_length]; rfl)
        go_wp2_with fail
        go_ret
        exact ⟨by rw [HE2.out]; rfl, hG⟩

/-- A road: from, to, what a car costs, a ride. -/
abbrev Ro := ByteArray × ByteArray × Int × Int
def roC (x : Ro) : Array Value := #[.string x.1, .string x.2.1, .int .i64 x.2.2.1, .int .i64 x.2.2.2]
theorem roC_sz (x : Ro) : (roC x).size = 4 := rfl
theorem ro_info (x : Ro) : (Tryd.prog.info? 164).map (·.size) = some (roC x).size := (by kernel_rfl : (Tryd.prog.info? 164).map (·.size) = some 4)
abbrev Wy := ByteArray × ByteArray
def wyC (x : Wy) : Array Value := #[.string x.1, .string x.2]
theorem wy_info (x : Wy) : (Tryd.prog.info? 218).map (·.size) = some (wyC x).size := (by kernel_rfl : (Tryd.prog.info? 218).map (·.size) = some 2)
def cmpW (x y : Wy) : Int := orI (cmpI x.1 y.1) (cmpI x.2 y.2)
set_option maxRecDepth 100000 in
set_option maxHeartbeats 1000000 in
theorem compareWays_c (x y : Wy) (w : World) :
    Calls Tryd.prog 166 #[.agg (wyC x), .agg (wyC y)] w fun e w' => e = .returned (.int .i64 (cmpW x y)) ∧ G w w' none := by
  have hBx := (Bk.new w 218 (wyC x)).alloc (.cells (wyC y) 218)
  have hBy := Bk.newAt (w := w.alloc (.cells (wyC x) 218)) (b := w.heap.size + 1) (by simp) 218 (wyC y)
  have hG := ((G.refl w none).alloc (.cells (wyC x) 218)).alloc (.cells (wyC y) 218)
  have HF : Hid (orI (cmpI x.1 y.1) (cmpI x.2 y.2) = cmpW x y) := Lib.hid rfl
  go_enter Tryd.func166, Tryd.ntmps166
  go_wp2_with fail
  generalize ((w.alloc (.cells (wyC x) 218)).alloc (.cells (wyC y) 218)) = w3 at hBx hBy hG ⊢
  have c1 : w3.cell? ⟨w.heap.size, 0, none⟩ = some (.string x.1) := hBx.cell 0
  have c2 : w3.cell? ⟨w.heap.size, 1, none⟩ = some (.string x.2) := hBx.cell 1
  have c3 : w3.cell? ⟨w.heap.size + 1, 0, none⟩ = some (.string y.1) := hBy.cell 0
  have c4 : w3.cell? ⟨w.heap.size + 1, 1, none⟩ = some (.string y.2) := hBy.cell 1
  have hGd := hG.drew
  clear hBx hBy hG
  go_region_held3 (fun w' => w'.cell? ⟨w.heap.size, 0, none⟩ = some (.string x.1) ∧ w'.cell? ⟨w.heap.size, 1, none⟩ = some (.string x.2) ∧ w'.cell? ⟨w.heap.size + 1, 0, none⟩ = some (.string y.1) ∧ w'.cell? ⟨w.heap.size + 1, 1, none⟩ = some (.string y.2)) (first | exact ⟨c1, c2, c3, c4⟩ | go_keep) (first | (go_at_call 113; refine (compare_c _ _ _).mono ?_; rintro e w' ⟨rfl, rfl⟩) | (go_at_call 112; refine (or2_c _ _ _ _ ((Bk.new w3 _ _).quiet ((G.refl _ none).drew))).mono ?_; rintro e w' ⟨rfl, rfl⟩))
  go_wp2_with fail
  go_ret
  exact ⟨ret_int HF.out, hGd.alloc _⟩
theorem roRate_c (n : Int) (w : World) : Calls Tryd.prog 157 #[.int .i64 n] w fun e w' => e = .returned (.bool (inB n 0 1000000)) ∧ w = w' := by
  go_enter Tryd.func157, Tryd.ntmps157
  go_wp2_with fail
  refine (within_c n 0 1000000 _).mono ?_; rintro e w' ⟨rfl, rfl⟩
  go_wp2_with fail
  go_ret
  exact ⟨rfl, rfl⟩
/-- The stations of the one road. -/
def sA : ByteArray := ⟨#[97]⟩
def sB : ByteArray := ⟨#[98]⟩
set_option maxRecDepth 100000 in
set_option maxHeartbeats 2000000 in
theorem wayOf_c (a b : ByteArray) (c d : Int) (w : World) : Calls Tryd.prog 154 #[.agg #[.string a, .string b, .int .i64 c, .int .i64 d]] w fun e w' => e = .returned (.agg #[.string a, .string b]) ∧ G w w' none := by
  have hB := (Bk.new w 164 #[.string a, .string b, .int .i64 c, .int .i64 d])
  have hG := (G.refl w none).alloc (.cells #[.string a, .string b, .int .i64 c, .int .i64 d] 164)
  go_enter Tryd.func154, Tryd.ntmps154
  go_wp2_with fail
  refine bodyPost_ret (results_cell_row rfl _ _ (w.heap.size + 1) 218 #[.string a, .string b] (0, 0) _ rfl (Bk.newAt (by simp) _ _) Tryd.underlying218 rfl (wy_info (a, b))) rfl ?_
  exact ⟨rfl, hG.alloc _⟩
set_option maxRecDepth 100000 in
set_option maxHeartbeats 2000000 in
theorem isRight_c (a b : ByteArray) (c d : Int) (hc : inB c 0 1000000 = true) (w : World) : Calls Tryd.prog 156 #[.agg #[.string a, .string b, .int .i64 c, .int .i64 d]] w fun e w' => e = .returned (.bool (inB d 0 1000000)) ∧ G w w' none := by
  have hB := (Bk.new w 164 #[.string a, .string b, .int .i64 c, .int .i64 d])
  have hG := (G.refl w none).alloc (.cells #[.string a, .string b, .int .i64 c, .int .i64 d] 164)
  go_enter Tryd.func156, Tryd.ntmps156
  go_upto_region 1 with fail
  generalize w.alloc (.cells #[.string a, .string b, .int .i64 c, .int .i64 d] 164) = w1 at hB hG ⊢
  generalize w.heap.size = g at hB ⊢
  have c2 : w1.cell? ⟨g, 2, none⟩ = some (.int .i64 c) := hB.cell 2
  have c3 : w1.cell? ⟨g, 3, none⟩ = some (.int .i64 d) := hB.cell 3
  go_wp2_with fail
  refine (roRate_c _ _).mono ?_; rintro e w' ⟨rfl, rfl⟩
  rw [hc]
  go_wp2_with fail
  refine (roRate_c _ _).mono ?_; rintro e w' ⟨rfl, rfl⟩
  go_wp2_with fail
  go_ret
  exact ⟨rfl, hG⟩
set_option maxRecDepth 100000 in
set_option maxHeartbeats 4000000 in
theorem manyOf_c (v : Value) (a b : ByteArray) (w : World) (hr : RdR w 2 neC v [(a, 1), (b, -1)]) :
    Calls Tryd.prog 128 #[v] w fun e w' => ∃ g, e = .returned (.slice (some ⟨g, 0, none⟩) 2 2) ∧ w.heap.size ≤ g ∧ Bk w' g 3 #[.int .i64 1, .int .i64 (-1)] ∧ G w w' none := by
  have hmk : ∀ w : World, (Instr.makeSlice 22 (.int .i64 2) (.int .i64 2)).run Tryd.prog w = .ok (.slice (some ⟨w.heap.size, 0, none⟩) 2 2) (w.alloc (.cells #[.int .i64 0, .int .i64 0] 3)) := fun w => by kernel_rfl
  obtain ⟨bb, bo, cap, e⟩ : ∃ bb bo cap, v = .slice (some ⟨bb, bo, none⟩) 2 cap := by
    obtain ⟨al, cl, rfl, -, -⟩ := RdR.form hr
    obtain ⟨bb, bo, rfl, -, -⟩ := RdR.elem neC_sz hr (G.refl w none) (k := 0) (p := (a, 1)) rfl
    exact ⟨bb, bo, cl, rfl⟩
  subst e
  have hcell : Hid (∀ w', G w w' none → w'.cell? ⟨bb, bo, none⟩ = some (.string a) ∧ w'.cell? ⟨bb, bo + 1, none⟩ = some (.int .i64 1) ∧ w'.cell? ⟨bb, bo + 2, none⟩ = some (.string b) ∧ w'.cell? ⟨bb, bo + 3, none⟩ = some (.int .i64 (-1))) := Lib.hid (fun w' h => by
    have e0 := RdR.cell neC_sz hr h (k := 0) (p := (a, 1)) rfl 0 (.string a) rfl
    have e1 := RdR.cell neC_sz hr h (k := 0) (p := (a, 1)) rfl 1 (.int .i64 1) rfl
    have e2 := RdR.cell neC_sz hr h (k := 1) (p := (b, -1)) rfl 0 (.string b) rfl
    have e3 := RdR.cell neC_sz hr h (k := 1) (p := (b, -1)) rfl 1 (.int .i64 (-1)) rfl
    simp only [Nat.zero_mul, Nat.one_mul, Nat.add_zero] at e0 e1 e2 e3
    exact ⟨e0, e1, e2, e3⟩)
  clear hr
  go_enter Tryd.func128, Tryd.ntmps128
  go_upto_region 2 with fail
  have hB := Bk.new w 3 #[.int .i64 0, .int .i64 0]
  have hG := (G.refl w none).alloc (.cells #[.int .i64 0, .int .i64 0] 3)
  generalize w.alloc (.cells #[.int .i64 0, .int .i64 0] 3) = w1 at hB hG ⊢
  obtain ⟨g, hg⟩ : ∃ g, w.heap.size = g := ⟨_, rfl⟩
  have hgs : w.heap.size ≤ g := by omega
  rw [hg] at hB ⊢
  clear hg
  go_wp2_with fail
  refine wp_loop_rounds 3 ?_
  rw [rounds_succ]
  obtain ⟨e0, e1, e2, e3⟩ := hcell.out _ hG
  have b0 : w1.cell? ⟨g, 0, none⟩ = some (.int .i64 0) := hB.cell 0
  have f0 : w1.frozen? ⟨g, 0, none⟩ = false := hB.free 0
  go_upto_region 5 with fail
  have hN := Bk.new w1 161 #[.string a, .int .i64 1]
  have hgN : g < w1.heap.size := hB.lt
  replace hB := hB.alloc (.cells #[.string a, .int .i64 1] 161)
  replace hG := hG.alloc (.cells #[.string a, .int .i64 1] 161)
  clear e0 e1 e2 e3 b0 f0
  generalize w1.alloc (.cells #[.string a, .int .i64 1] 161) = wn0 at hN hB hG ⊢
  generalize w1.heap.size = n at hN hgN ⊢
  have n1 : wn0.cell? ⟨n, 1, none⟩ = some (.int .i64 1) := hN.cell 1
  have b0 : wn0.cell? ⟨g, 0, none⟩ = some (.int .i64 0) := hB.cell 0
  have f0 : wn0.frozen? ⟨g, 0, none⟩ = false := hB.free 0
  go_wp2_with fail
  replace hB := hB.set 0 (.int .i64 1)
  replace hG := hG.setCell (p := ⟨g, 0, none⟩) (.inl hgs) (.int .i64 1)
  clear n1 b0 f0 hN hgN
  generalize wn0.setCell ⟨g, 0, none⟩ (.int .i64 1) = wz0 at hB hG ⊢
  rw [rounds_succ]
  obtain ⟨e0, e1, e2, e3⟩ := hcell.out _ hG
  have b0 : wz0.cell? ⟨g, 1, none⟩ = some (.int .i64 0) := hB.cell 1
  have f0 : wz0.frozen? ⟨g, 1, none⟩ = false := hB.free 1
  go_upto_region 5 with fail
  have hN := Bk.new wz0 161 #[.string b, .int .i64 (-1)]
  have hgN : g < wz0.heap.size := hB.lt
  replace hB := hB.alloc (.cells #[.string b, .int .i64 (-1)] 161)
  replace hG := hG.alloc (.cells #[.string b, .int .i64 (-1)] 161)
  clear e0 e1 e2 e3 b0 f0
  generalize wz0.alloc (.cells #[.string b, .int .i64 (-1)] 161) = wn1 at hN hB hG ⊢
  generalize wz0.heap.size = n at hN hgN ⊢
  have n1 : wn1.cell? ⟨n, 1, none⟩ = some (.int .i64 (-1)) := hN.cell 1
  have b0 : wn1.cell? ⟨g, 1, none⟩ = some (.int .i64 0) := hB.cell 1
  have f0 : wn1.frozen? ⟨g, 1, none⟩ = false := hB.free 1
  go_wp2_with fail
  replace hB := hB.set 1 (.int .i64 (-1))
  replace hG := hG.setCell (p := ⟨g, 1, none⟩) (.inl hgs) (.int .i64 (-1))
  clear n1 b0 f0 hN hgN
  generalize wn1.setCell ⟨g, 1, none⟩ (.int .i64 (-1)) = wz1 at hB hG ⊢
  rw [rounds_succ]
  go_wp2_with fail
  go_ret
  exact ⟨g, rfl, hgs, hB, hG⟩
end Go.Proofs.YtddedckehllkoaaDoor

/- A slice of a slice, from a place on. -/
namespace Go.Proofs.YtddedckehllkoaaDoor
open Go.RowKit

theorem RdR.dropQ {α : Type} {w : World} {z : Nat} {c : α → Array Value} {bb bo n cap : Nat} {l : List α} (hz : ∀ p, (c p).size = z) (h : RdR w z c (.slice (some ⟨bb, bo, none⟩) n cap) l) (k : Nat) (hk : k ≤ l.length) :
    RdR w z c (.slice (if cap = k then some ⟨bb, bo, none⟩ else some ⟨bb, bo + k * z, none⟩) (n - k) (cap - k)) (l.drop k) := by
  obtain ⟨a', c', e, h1, h2, h3, h4, h5⟩ := h
  cases e
  have hlen : (l.drop k).length = l.length - k := List.length_drop
  refine ⟨_, _, by rw [hlen], by omega, by omega, rowL_len hz _, fun e => ?_, fun b hb => ?_⟩
  · split at e <;> simp at e
  · obtain ⟨q1, q2, q3⟩ := h5 _ rfl
    by_cases hc : cap = k
    · rw [if_pos hc] at hb
      cases hb
      have hl0 : l.drop k = [] := List.eq_nil_of_length_eq_zero (by omega)
      exact ⟨q1, q2, fun j u hj => by rw [hl0] at hj; simp [rowL] at hj⟩
    · rw [if_neg hc] at hb
      cases hb
      refine ⟨rfl, q2, fun j u hj => ?_⟩
      have e2 : rowL c l = rowL c (l.take k) ++ rowL c (l.drop k) := by
        unfold rowL
        rw [← List.flatMap_append, List.take_append_drop]
      have hlk : (rowL c (l.take k)).length = k * z := by rw [rowL_len hz, List.length_take, Nat.min_eq_left hk]
      have := q3 (k * z + j) u (by rw [e2, List.getElem?_append_right (by omega), hlk, show k * z + j - k * z = j by omega]; exact hj)
      dsimp only at this ⊢
      rw [show bo + k * z + j = bo + (k * z + j) by omega]
      exact this
end Go.Proofs.YtddedckehllkoaaDoor

/- shift.Plan at one road: firstLoad. Written by genplb.py. -/
namespace Go.Proofs.YtddedckehllkoaaDoor
open Go.RowKit

set_option maxRecDepth 100000 in
set_option maxHeartbeats 4000000 in
theorem first_c (vl vn : Value) (w : World) (hl : RdI w vl [1, -1]) (hn : RdR w 3 lnC vn [(0, 1, 4)]) :
    Calls Tryd.prog 131 #[vl, vn, .int .i64 4] w fun e w' => e = .returned (.int .i64 1) ∧ G w w' none := by
  have CC := Lib.hid (cloneIn_c vl _ w hl (by simp))
  obtain ⟨an, cn, rfl, hcn, -⟩ := RdR.form hn
  obtain ⟨bn, on, rfl, hbn, -⟩ := RdR.elem lnC_sz hn (G.refl _ none) (k := 0) (p := (0, 1, 4)) rfl
  go_enter Tryd.func131, Tryd.ntmps131
  go_wp2_with fail
  refine CC.out.mono ?_; rintro e w1 ⟨vL, rfl, hL, hG⟩
  obtain ⟨gl, cL, cur, e, hBL⟩ := OwnX.form0 hL (by simp)
  subst e
  have n0 := RdR.cell lnC_sz hn hG (k := 0) (p := (0, 1, 4)) rfl 0 (.int .i64 0) rfl
  have n1 := RdR.cell lnC_sz hn hG (k := 0) (p := (0, 1, 4)) rfl 1 (.int .i64 1) rfl
  have n2 := RdR.cell lnC_sz hn hG (k := 0) (p := (0, 1, 4)) rfl 2 (.int .i64 4) rfl
  simp only [Nat.zero_mul, Nat.one_mul, Nat.add_zero, Nat.zero_add] at n0 n1 n2
  go_upto_region 3 with fail
  have hN := Bk.new w1 197 #[.int .i64 0, .int .i64 1, .int .i64 4]
  replace hL := OwnX.alloc hL (.cells #[.int .i64 0, .int .i64 1, .int .i64 4] 197)
  have hlt := hBL.lt
  replace hBL := hBL.alloc (.cells #[.int .i64 0, .int .i64 1, .int .i64 4] 197)
  replace hG := hG.alloc (.cells #[.int .i64 0, .int .i64 1, .int .i64 4] 197)
  clear n0 n1 n2
  generalize w1.alloc (.cells #[.int .i64 0, .int .i64 1, .int .i64 4] 197) = w2 at hN hL hBL hG ⊢
  generalize w1.heap.size = n at hN hlt ⊢
  have m0 : w2.cell? ⟨n, 0, none⟩ = some (.int .i64 0) := hN.cell 0
  have m1 : w2.cell? ⟨n, 1, none⟩ = some (.int .i64 1) := hN.cell 1
  have m2 : w2.cell? ⟨n, 2, none⟩ = some (.int .i64 4) := hN.cell 2
  have l0 := RdR.cell inC_sz (Rd.of_owns hL) (G.refl _ none) (k := 0) (p := 1) rfl 0 (.int .i64 1) rfl
  have l1 := RdR.cell inC_sz (Rd.of_owns hL) (G.refl _ none) (k := 1) (p := -1) rfl 0 (.int .i64 (-1)) rfl
  simp only [Nat.zero_mul, Nat.one_mul, Nat.add_zero, Nat.zero_add] at l0 l1
  have f0 := hBL.free 0
  have f1 := hBL.free 1
  have hgl : w.heap.size ≤ gl := OwnX.low hL gl rfl
  have hng : n ≠ gl := by omega
  have k1 := OwnX.set inC_sz hL (k := 0) (p := 1) rfl (q := 0) 0 (.int .i64 0) (by omega) rfl
  have k2 := OwnX.set (l := [0, -1]) inC_sz k1 (k := 1) (p := -1) rfl (q := 0) 0 (.int .i64 0) (by omega) rfl
  have k4 : RdI ((w2.setCell ⟨gl, 0, none⟩ (.int .i64 0)).setCell ⟨gl, 1, none⟩ (.int .i64 0)) (.slice (some ⟨gl, 0, none⟩) 2 cL) [0, 0] := Rd.of_owns k2
  have hG3 := (hG.setCell (p := ⟨gl, 0, none⟩) (.inl hgl) (.int .i64 0)).setCell (p := ⟨gl, 1, none⟩) (.inl hgl) (.int .i64 0)
  have hN3 := (hN.far (p := ⟨gl, 0, none⟩) hng (.int .i64 0)).far (p := ⟨gl, 1, none⟩) hng (.int .i64 0)
  have hD := RdR.dropQ lnC_sz (hn.quiet hG3) 1 (by simp)
  clear k1 k2 hL hBL hN
  by_cases hc1 : cn = 1
  · subst hc1
    rw [if_pos rfl] at hD
    go_wp2_with fail
    refine wp_loop_rounds 1 ?_
    rw [rounds_succ]
    go_wp2_with fail
    refine (costB_c _ _ _ k4 hD).mono ?_; rintro e w3 ⟨rfl, hh⟩
    have m2 : w3.cell? ⟨n, 2, none⟩ = some (.int .i64 4) := (hN3.quiet hh).cell 2
    go_wp2_with fail
    go_ret
    exact ⟨rfl, hG3.trans hh⟩
  · rw [if_neg hc1] at hD
    go_wp2_with fail
    refine wp_loop_rounds 1 ?_
    rw [rounds_succ]
    go_wp2_with fail
    refine (costB_c _ _ _ k4 hD).mono ?_; rintro e w3 ⟨rfl, hh⟩
    have m2 : w3.cell? ⟨n, 2, none⟩ = some (.int .i64 4) := (hN3.quiet hh).cell 2
    go_wp2_with fail
    go_ret
    exact ⟨rfl, hG3.trans hh⟩
end Go.Proofs.YtddedckehllkoaaDoor

/- shift.Plan at one road: CheckRoads, the lanes, the plan. Written by genple.py. -/
namespace Go.Proofs.YtddedckehllkoaaDoor
open Go.RowKit

set_option maxRecDepth 100000 in
set_option maxHeartbeats 4000000 in
theorem checkWays_c (v : Value) (w : World) (hr : RdR w 4 roC v [(sA, sB, 4, 0)]) :
    Calls Tryd.prog 155 #[v, .func (.func 154) #[] #[], .func (.func 156) #[] #[]] w fun e w' => e = .returned (.int .i64 0) ∧ G w w' none := by
  have hG := G.refl w none
  obtain ⟨al, cl, rfl, -, -⟩ := RdR.form hr
  obtain ⟨bb, bo, rfl, -, -⟩ := RdR.elem roC_sz hr hG (k := 0) (p := (sA, sB, 4, 0)) rfl
  have hcell : Hid (∀ w', G w w' none → w'.cell? ⟨bb, bo, none⟩ = some (.string sA) ∧ w'.cell? ⟨bb, bo + 1, none⟩ = some (.string sB) ∧ w'.cell? ⟨bb, bo + 2, none⟩ = some (.int .i64 4) ∧ w'.cell? ⟨bb, bo + 3, none⟩ = some (.int .i64 0)) := Lib.hid (fun w' h => by
    have e0 := RdR.cell roC_sz hr h (k := 0) (p := (sA, sB, 4, 0)) rfl 0 (.string sA) rfl
    have e1 := RdR.cell roC_sz hr h (k := 0) (p := (sA, sB, 4, 0)) rfl 1 (.string sB) rfl
    have e2 := RdR.cell roC_sz hr h (k := 0) (p := (sA, sB, 4, 0)) rfl 2 (.int .i64 4) rfl
    have e3 := RdR.cell roC_sz hr h (k := 0) (p := (sA, sB, 4, 0)) rfl 3 (.int .i64 0) rfl
    simp only [Nat.zero_mul, Nat.add_zero] at e0 e1 e2 e3
    exact ⟨e0, e1, e2, e3⟩)
  have HkA : Hid (keyB sA = true) := Lib.hid (by decide)
  have HkB : Hid (keyB sB = true) := Lib.hid (by decide)
  have hne : (sA == sB) = false := by decide
  have hne2 : (sA.toList == sB.toList) = false := by kernel_rfl
  have HcW : Hid (cmpW (sA, sB) (⟨#[]⟩, ⟨#[]⟩) = 1) := Lib.hid (by decide)
  have HiR : Hid (inB 0 0 1000000 = true) := Lib.hid (by decide)
  have CW := Lib.hid (wayOf_c sA sB 4 0)
  have CR := Lib.hid (isRight_c sA sB 4 0 (by decide))
  have CC := Lib.hid (compareWays_c (sA, sB) (⟨#[]⟩, ⟨#[]⟩))
  have CA := Lib.hid (fun w => isKey_c sA w (by decide))
  have CB := Lib.hid (fun w => isKey_c sB w (by decide))
  clear hr
  generalize sA = a at hcell HkA hne hne2 HcW CW CR CC CA ⊢
  generalize sB = b at hcell HkB hne hne2 HcW CW CR CC CB ⊢
  go_enter Tryd.func155, Tryd.ntmps155
  go_upto_region 4 with fail
  have hZ := Bk.new w 218 #[.string ⟨#[]⟩, .string ⟨#[]⟩]
  replace hG := hG.alloc (.cells #[.string ⟨#[]⟩, .string ⟨#[]⟩] 218)
  generalize w.alloc (.cells #[.string ⟨#[]⟩, .string ⟨#[]⟩] 218) = w1 at hZ hG ⊢
  obtain ⟨g, hg⟩ : ∃ g, w.heap.size = g := ⟨_, rfl⟩
  have hgs : w.heap.size ≤ g := by omega
  rw [hg] at hZ ⊢
  clear hg
  go_wp2_with fail
  refine wp_loop_rounds 2 ?_
  rw [rounds_succ]
  obtain ⟨e0, e1, e2, e3⟩ := hcell.out _ hG
  go_upto_region 7 with fail
  have hN := Bk.new w1 164 #[.string a, .string b, .int .i64 4, .int .i64 0]
  replace hZ := hZ.alloc (.cells #[.string a, .string b, .int .i64 4, .int .i64 0] 164)
  replace hG := hG.alloc (.cells #[.string a, .string b, .int .i64 4, .int .i64 0] 164)
  clear e0 e1 e2 e3
  generalize w1.alloc (.cells #[.string a, .string b, .int .i64 4, .int .i64 0] 164) = w2 at hN hZ hG ⊢
  generalize w1.heap.size = n at hN ⊢
  have n0 : w2.cell? ⟨n, 0, none⟩ = some (.string a) := hN.cell 0
  have n1 : w2.cell? ⟨n, 1, none⟩ = some (.string b) := hN.cell 1
  have n2 : w2.cell? ⟨n, 2, none⟩ = some (.int .i64 4) := hN.cell 2
  have n3 : w2.cell? ⟨n, 3, none⟩ = some (.int .i64 0) := hN.cell 3
  go_wp2_with fail
  refine (CW.out _).mono ?_; rintro e w3 ⟨rfl, hh⟩
  replace hN := hN.quiet hh
  replace hZ := hZ.quiet hh
  replace hG := hG.trans hh
  clear hh n0 n1 n2 n3
  go_upto_region 8 with fail
  have hM := Bk.new w3 218 #[.string a, .string b]
  have hgM : g < w3.heap.size := hZ.lt
  replace hN := hN.alloc (.cells #[.string a, .string b] 218)
  replace hZ := hZ.alloc (.cells #[.string a, .string b] 218)
  replace hG := hG.alloc (.cells #[.string a, .string b] 218)
  generalize w3.alloc (.cells #[.string a, .string b] 218) = w4 at hM hN hZ hG ⊢
  generalize w3.heap.size = m at hM hgM ⊢
  have m0 : w4.cell? ⟨m, 0, none⟩ = some (.string a) := hM.cell 0
  have m1 : w4.cell? ⟨m, 1, none⟩ = some (.string b) := hM.cell 1
  have z0 : w4.cell? ⟨g, 0, none⟩ = some (.string ⟨#[]⟩) := hZ.cell 0
  have z1 : w4.cell? ⟨g, 1, none⟩ = some (.string ⟨#[]⟩) := hZ.cell 1
  go_wp2_with fail
  refine (CA.out _).mono ?_; rintro e w' ⟨rfl, rfl⟩
  rw [HkA.out]
  go_wp2_with fail
  refine (CB.out _).mono ?_; rintro e w' ⟨rfl, rfl⟩
  rw [HkB.out]
  go_wp2_with fail
  refine (CC.out _).mono ?_; rintro e w5 ⟨rfl, hh⟩
  rw [HcW.out]
  replace hM := hM.quiet hh
  replace hN := hN.quiet hh
  replace hZ := hZ.quiet hh
  replace hG := hG.trans hh
  clear hh m0 m1 z0 z1
  have n0 : w5.cell? ⟨n, 0, none⟩ = some (.string a) := hN.cell 0
  have n1 : w5.cell? ⟨n, 1, none⟩ = some (.string b) := hN.cell 1
  have n2 : w5.cell? ⟨n, 2, none⟩ = some (.int .i64 4) := hN.cell 2
  have n3 : w5.cell? ⟨n, 3, none⟩ = some (.int .i64 0) := hN.cell 3
  go_wp2_with fail
  refine (CR.out _).mono ?_; rintro e w6 ⟨rfl, hh⟩
  rw [HiR.out]
  replace hM := hM.quiet hh
  replace hZ := hZ.quiet hh
  replace hG := hG.trans hh
  clear hh n0 n1 n2 n3 hN
  have m0 : w6.cell? ⟨m, 0, none⟩ = some (.string a) := hM.cell 0
  have m1 : w6.cell? ⟨m, 1, none⟩ = some (.string b) := hM.cell 1
  have z0 : w6.cell? ⟨g, 0, none⟩ = some (.string ⟨#[]⟩) := hZ.cell 0
  have z1 : w6.cell? ⟨g, 1, none⟩ = some (.string ⟨#[]⟩) := hZ.cell 1
  have f0 : w6.frozen? ⟨g, 0, none⟩ = false := hZ.free 0
  have f1 : w6.frozen? ⟨g, 1, none⟩ = false := hZ.free 1
  go_wp2_with fail
  rw [rounds_succ]
  go_wp2_with fail
  go_ret
  exact ⟨rfl, (hG.setCell (p := ⟨g, 0, none⟩) (.inl hgs) _).setCell (p := ⟨g, 1, none⟩) (.inl hgs) _⟩
theorem checkRoads_c (v : Value) (w : World) (hr : RdR w 4 roC v [(sA, sB, 4, 0)]) :
    Calls Tryd.prog 138 #[v] w fun e w' => e = .returned (.int .i64 0) ∧ G w w' none := by
  go_enter Tryd.func138, Tryd.ntmps138
  go_wp2_with fail
  refine (checkWays_c v w hr).mono ?_; rintro e w1 ⟨rfl, hG⟩
  go_wp2_with fail
  go_ret
  exact ⟨rfl, hG⟩
theorem checkOffice_c (v u : Value) (w : World) (hr : RdR w 2 neC v [(sA, 1), (sB, -1)]) (hs : RdR w 4 roC u [(sA, sB, 4, 0)]) :
    Calls Tryd.prog 127 #[v, u] w fun e w' => e = .returned (.int .i64 0) ∧ G w w' none := by
  have HE : Hid (neE [(sA, 1), (sB, -1)] = 0) := Lib.hid (by
    have h1 : keyB sA = true := by decide
    have h2 : keyB sB = true := by decide
    have h3 : leB sA ⟨#[]⟩ = false := by kernel_rfl
    have h4 : leB sB sA = false := by kernel_rfl
    simp [neE, neErr, neT, inB, h1, h2, h3, h4])
  have CN := Lib.hid (checkNeeds_c v _ w hr (fun x hx => by
    simp only [List.mem_cons, List.not_mem_nil, or_false] at hx
    rcases hx with rfl | rfl
    · show Small sA; unfold Small; decide
    · show Small sB; unfold Small; decide) (by simp))
  go_enter Tryd.func127, Tryd.ntmps127
  go_wp2_with fail
  refine CN.out.mono ?_; rintro e w1 ⟨rfl, hG⟩
  rw [HE.out]
  go_wp2_with fail
  refine (checkRoads_c u w1 (hs.quiet hG)).mono ?_; rintro e w2 ⟨rfl, hh⟩
  have hG2 := hG.trans hh
  go_wp2_with fail
  go_ret
  exact ⟨rfl, hG2⟩
end Go.Proofs.YtddedckehllkoaaDoor

/- shift.Plan at one road: the lanes, the plan. Written by genplf.py. -/
namespace Go.Proofs.YtddedckehllkoaaDoor
open Go.RowKit

theorem ln_rowOk : RowOk Tryd.prog 197 193 3 24 (.agg #[.int .i64 0, .int .i64 0, .int .i64 0]) lnC := ⟨by kernel_rfl, Tryd.underlying193, fun r u hu => by simp [lnC] at hu; rcases hu with rfl | rfl | rfl <;> rfl, lnC_sz, rfl, by omega, by omega⟩
theorem zi_run3 (w : World) : (zeroValue 3).run Tryd.prog w = .ok (.int .i64 0) w := by kernel_rfl
set_option maxRecDepth 100000 in
set_option maxHeartbeats 4000000 in
theorem lanes_c (v u : Value) (w : World) (hr : RdR w 2 neC v [(sA, 1), (sB, -1)]) (hs : RdR w 4 roC u [(sA, sB, 4, 0)]) :
    Calls Tryd.prog 129 #[v, u] w fun e w' => ∃ v', e = .returned v' ∧ RdR w' 3 lnC v' [(0, 1, 4)] ∧ G w w' none := by
  have hmm : ∀ w : World, (Instr.makeMap 204 (some (.int .i64 2))).run Tryd.prog w = .ok (.map (some w.heap.size)) (w.alloc (.map #[] 0)) := fun _ => rfl
  have hG := G.refl w none
  obtain ⟨al, cl, rfl, -, -⟩ := RdR.form hr
  obtain ⟨bb, bo, rfl, -, -⟩ := RdR.elem neC_sz hr hG (k := 0) (p := (sA, 1)) rfl
  obtain ⟨al, cu, rfl, -, -⟩ := RdR.form hs
  obtain ⟨br, oR, rfl, -, -⟩ := RdR.elem roC_sz hs hG (k := 0) (p := (sA, sB, 4, 0)) rfl
  have hcell : Hid (∀ w', G w w' none → (w'.cell? ⟨bb, bo, none⟩ = some (.string sA) ∧ w'.cell? ⟨bb, bo + 1, none⟩ = some (.int .i64 1) ∧ w'.cell? ⟨bb, bo + 2, none⟩ = some (.string sB) ∧ w'.cell? ⟨bb, bo + 2 + 1, none⟩ = some (.int .i64 (-1))) ∧ w'.cell? ⟨br, oR, none⟩ = some (.string sA) ∧ w'.cell? ⟨br, oR + 1, none⟩ = some (.string sB) ∧ w'.cell? ⟨br, oR + 2, none⟩ = some (.int .i64 4) ∧ w'.cell? ⟨br, oR + 3, none⟩ = some (.int .i64 0)) := Lib.hid (fun w' h => by
    have e0 := RdR.cell neC_sz hr h (k := 0) (p := (sA, 1)) rfl 0 (.string sA) rfl
    have e1 := RdR.cell neC_sz hr h (k := 0) (p := (sA, 1)) rfl 1 (.int .i64 1) rfl
    have e2 := RdR.cell neC_sz hr h (k := 1) (p := (sB, -1)) rfl 0 (.string sB) rfl
    have e3 := RdR.cell neC_sz hr h (k := 1) (p := (sB, -1)) rfl 1 (.int .i64 (-1)) rfl
    have e4 := RdR.cell roC_sz hs h (k := 0) (p := (sA, sB, 4, 0)) rfl 0 (.string sA) rfl
    have e5 := RdR.cell roC_sz hs h (k := 0) (p := (sA, sB, 4, 0)) rfl 1 (.string sB) rfl
    have e6 := RdR.cell roC_sz hs h (k := 0) (p := (sA, sB, 4, 0)) rfl 2 (.int .i64 4) rfl
    have e7 := RdR.cell roC_sz hs h (k := 0) (p := (sA, sB, 4, 0)) rfl 3 (.int .i64 0) rfl
    simp only [Nat.zero_mul, Nat.one_mul, Nat.add_zero] at e0 e1 e2 e3 e4 e5 e6 e7
    exact ⟨⟨e0, e1, e2, e3⟩, e4, e5, e6, e7⟩)
  have hsa : sA.size ≤ maxLen := by decide
  have hsb : sB.size ≤ maxLen := by decide
  have HN : Hid (¬ sA = sB) := Lib.hid (by decide)
  clear hr hs
  generalize sA = a at hcell hsa HN ⊢
  generalize sB = b at hcell hsb HN ⊢
  go_enter Tryd.func129, Tryd.ntmps129
  go_upto_region 2 with fail
  have hM : OwnM Tryd.prog 9 (w.alloc (.map #[] 0)) w.heap.size 0 (fun _ => none) := OwnM.made _ _ _ rfl
  replace hG := hG.alloc (.map #[] 0)
  generalize w.alloc (.map #[] 0) = w1 at hM hG ⊢
  obtain ⟨g, hg⟩ : ∃ g, w.heap.size = g := ⟨_, rfl⟩
  have hgs : w.heap.size ≤ g := by omega
  rw [hg] at hM ⊢
  clear hg
  go_wp2_with fail
  refine wp_loop_rounds 3 ?_
  rw [rounds_succ]
  obtain ⟨⟨e0, e1, e2, e3⟩, -⟩ := hcell.out _ hG
  go_upto_region 5 with fail
  have hN := Bk.new w1 161 #[.string a, .int .i64 1]
  replace hM := hM.alloc (.cells #[.string a, .int .i64 1] 161)
  replace hG := hG.alloc (.cells #[.string a, .int .i64 1] 161)
  clear e0 e1 e2 e3
  generalize w1.alloc (.cells #[.string a, .int .i64 1] 161) = wn0 at hN hM hG ⊢
  generalize w1.heap.size = n at hN ⊢
  have n0 : wn0.cell? ⟨n, 0, none⟩ = some (.string a) := hN.cell 0
  go_wp2_with (at_mapUpdate; refine wpM_store rfl _ _ _ 204 rfl 9 3 Tryd.underlying9 Tryd.underlying204 g _ _ rfl hM (by first | decide | (unfold cput; split <;> decide)) a rfl hsa (.int .i64 0) rfl ?_; intro wz0 hM0 hh0)
  clear hM hN n0
  have hM := hM0
  replace hG := hG.other hh0 (fun j e => .inl (by obtain rfl := Option.some.inj e; exact hgs))
  clear hM0 hh0
  rw [rounds_succ]
  obtain ⟨⟨e0, e1, e2, e3⟩, -⟩ := hcell.out _ hG
  go_upto_region 5 with fail
  have hN := Bk.new wz0 161 #[.string b, .int .i64 (-1)]
  replace hM := hM.alloc (.cells #[.string b, .int .i64 (-1)] 161)
  replace hG := hG.alloc (.cells #[.string b, .int .i64 (-1)] 161)
  clear e0 e1 e2 e3
  generalize wz0.alloc (.cells #[.string b, .int .i64 (-1)] 161) = wn1 at hN hM hG ⊢
  generalize wz0.heap.size = n at hN ⊢
  have n0 : wn1.cell? ⟨n, 0, none⟩ = some (.string b) := hN.cell 0
  go_wp2_with (at_mapUpdate; refine wpM_store rfl _ _ _ 204 rfl 9 3 Tryd.underlying9 Tryd.underlying204 g _ _ rfl hM (by first | decide | (unfold cput; split <;> decide)) b rfl hsb (.int .i64 1) rfl ?_; intro wz1 hM1 hh1)
  clear hM hN n0
  have hM := hM1
  replace hG := hG.other hh1 (fun j e => .inl (by obtain rfl := Option.some.inj e; exact hgs))
  clear hM1 hh1
  rw [rounds_succ]
  go_wp2_with fail
  have hfa : (fput (fput (fun _ => none) a (.int .i64 0)) b (.int .i64 1)) a = some (.int .i64 0) := by unfold fput; rw [if_neg HN.out, if_pos rfl]
  have hfb : (fput (fput (fun _ => none) a (.int .i64 0)) b (.int .i64 1)) b = some (.int .i64 1) := by unfold fput; rw [if_pos rfl]
  generalize fput (fput (fun _ => none) a (.int .i64 0)) b (.int .i64 1) = F at hM hfa hfb
  generalize cput (cput 0 (fun _ => none) a) (fput (fun _ => none) a (.int .i64 0)) b = cM at hM
  refine wp_loop_rounds 2 ?_
  rw [rounds_succ]
  obtain ⟨-, e4, e5, e6, e7⟩ := hcell.out _ hG
  go_upto_region 11 with fail
  have hN := Bk.new wz1 164 #[.string a, .string b, .int .i64 4, .int .i64 0]
  replace hM := hM.alloc (.cells #[.string a, .string b, .int .i64 4, .int .i64 0] 164)
  replace hG := hG.alloc (.cells #[.string a, .string b, .int .i64 4, .int .i64 0] 164)
  clear e4 e5 e6 e7
  generalize wz1.alloc (.cells #[.string a, .string b, .int .i64 4, .int .i64 0] 164) = w2 at hN hM hG ⊢
  generalize wz1.heap.size = n at hN ⊢
  have n0 : w2.cell? ⟨n, 0, none⟩ = some (.string a) := hN.cell 0
  have n1 : w2.cell? ⟨n, 1, none⟩ = some (.string b) := hN.cell 1
  have n2 : w2.cell? ⟨n, 2, none⟩ = some (.int .i64 4) := hN.cell 2
  obtain ⟨⟨e0, e1, e2, e3⟩, -⟩ := hcell.out _ hG
  go_upto_region 14 with (at_lookup; first | (refine wpM_look_ok rfl _ _ 204 rfl 9 3 Tryd.underlying9 Tryd.underlying204 (.int .i64 0) (zi_run3 _) g cM F rfl hM a rfl hsa ?_; rw [hfa]) | (refine wpM_look_ok rfl _ _ 204 rfl 9 3 Tryd.underlying9 Tryd.underlying204 (.int .i64 0) (zi_run3 _) g cM F rfl hM b rfl hsb ?_; rw [hfb]))
  have hsz := hG.size
  go_wp2_with (at_builtin; refine wpList_plain rfl fun K' hK' => wp_append_x ln_rowOk _ _ rfl w.heap.size (.slice none 0 0) [] rfl (World.ownsRow_nil _ _ _ _) w2.heap.size (0, 1, 4) rfl (Bk.new w2 _ _) (by simp) (by simp; omega) ?_; intro v8 w8 hown8 hgrow; refine hK' _ _ ?_)
  have hG8 := (hG.alloc (.cells (lnC (0, 1, 4)) 197)).other hgrow (fun j e => by simp [Value.ownBlock] at e)
  rw [rounds_succ]
  go_wp2_with fail
  go_ret
  exact ⟨v8, rfl, Rd.of_owns hown8, hG8⟩
end Go.Proofs.YtddedckehllkoaaDoor

/- shift.Plan at one road. Written by genplg.py. -/
namespace Go.Proofs.YtddedckehllkoaaDoor
open Go.RowKit

/-- A move: from, to, how many. -/
abbrev Mv := ByteArray × ByteArray × Int
def mvC (x : Mv) : Array Value := #[.string x.1, .string x.2.1, .int .i64 x.2.2]
theorem mvC_sz (x : Mv) : (mvC x).size = 3 := rfl
theorem mv_rowOk : RowOk Tryd.prog 168 157 3 40 (.agg #[.string ⟨#[]⟩, .string ⟨#[]⟩, .int .i64 0]) mvC := ⟨by kernel_rfl, Tryd.underlying157, fun r u hu => by simp [mvC] at hu; rcases hu with rfl | rfl | rfl <;> rfl, mvC_sz, rfl, by omega, by omega⟩
theorem OwnX.apx {α : Type} {T T' : TypeId} {z g base : Nat} {c : α → Array Value} {w : World} {v : Value} {l : List α} {cs : Array Value} (h : OwnX T z c w base v l) (hB : Bk w g T' cs) (hT : T ≠ T') : some g ≠ v.ownBlock := by
  rcases h.2 with ⟨rfl, _⟩ | ⟨g', cap, cur, rfl, _, hg, _⟩
  · simp [Value.ownBlock]
  · intro e
    simp only [Value.ownBlock, Option.map_some, Option.some.injEq] at e
    subst e
    have h2 := hB.symm.trans hg
    simp only [Option.some.injEq, Obj.cells.injEq] at h2
    exact hT h2.2.1.symm
set_option maxRecDepth 100000 in
set_option maxHeartbeats 4000000 in
theorem plan_c (v u : Value) (w : World) (hr : RdR w 2 neC v [(sA, 1), (sB, -1)]) (hs : RdR w 4 roC u [(sA, sB, 4, 0)]) :
    Calls Tryd.prog 103 #[v, u] w fun e w' => ∃ v', e = .returned (.tuple #[v', .int .i64 0]) ∧ RdR w' 3 mvC v' [(sA, sB, 1)] ∧ G w w' none := by
  have hG := G.refl w none
  obtain ⟨al, cl, rfl, -, -⟩ := RdR.form hr
  obtain ⟨bb, bo, rfl, -, -⟩ := RdR.elem neC_sz hr hG (k := 0) (p := (sA, 1)) rfl
  have hcell : Hid (∀ w', G w w' none → w'.cell? ⟨bb, bo, none⟩ = some (.string sA) ∧ w'.cell? ⟨bb, bo + 2, none⟩ = some (.string sB)) := Lib.hid (fun w' h => by
    have e0 := RdR.cell neC_sz hr h (k := 0) (p := (sA, 1)) rfl 0 (.string sA) rfl
    have e2 := RdR.cell neC_sz hr h (k := 1) (p := (sB, -1)) rfl 0 (.string sB) rfl
    simp only [Nat.zero_mul, Nat.one_mul, Nat.add_zero] at e0 e2
    exact ⟨e0, e2⟩)
  have CO := Lib.hid (checkOffice_c _ u w hr hs)
  have CM := Lib.hid (fun w' (h : G w w' none) => manyOf_c _ sA sB w' (hr.quiet h))
  have CL := Lib.hid (fun w' (h : G w w' none) => lanes_c _ u w' (hr.quiet h) (hs.quiet h))
  clear hr hs
  generalize sA = a at hcell CO CM CL ⊢
  generalize sB = b at hcell CO CM CL ⊢
  go_enter Tryd.func103, Tryd.ntmps103
  go_wp2_with fail
  refine CO.out.mono ?_; rintro e w1 ⟨rfl, hh⟩
  replace hG := hG.trans hh
  clear hh CO
  go_wp2_with fail
  refine (CM.out _ hG).mono ?_; rintro e w1b ⟨gl, rfl, hgl, hL, hh⟩
  have hgs := Nat.le_trans hG.size hgl
  replace hG := hG.trans hh
  clear hh CM hgl
  go_wp2_with fail
  refine (CL.out _ hG).mono ?_; rintro e w1c ⟨vn, rfl, hn, hh⟩
  replace hL := hL.quiet hh
  replace hG := hG.trans hh
  clear hh CL
  obtain ⟨an, cn, rfl, hcn, -⟩ := RdR.form hn
  obtain ⟨bn, on, rfl, -, -⟩ := RdR.elem lnC_sz hn (G.refl _ none) (k := 0) (p := (0, 1, 4)) rfl
  have hcn0 : ¬ cn = 0 := by simp at hcn; omega
  clear hcn
  go_wp2_with fail
  refine (costA_c _ _ _ (hL.rd 1 2 rfl (by omega)) hn).mono ?_; rintro e w1d ⟨rfl, hh⟩
  replace hL := hL.quiet hh
  replace hn := hn.quiet hh
  replace hG := hG.trans hh
  clear hh
  go_wp2_with fail
  refine wp_loop_rounds 2 ?_
  rw [rounds_succ]
  have e0 := RdR.cell lnC_sz hn (G.refl _ none) (k := 0) (p := (0, 1, 4)) rfl 0 (.int .i64 0) rfl
  have e1 := RdR.cell lnC_sz hn (G.refl _ none) (k := 0) (p := (0, 1, 4)) rfl 1 (.int .i64 1) rfl
  have e2 := RdR.cell lnC_sz hn (G.refl _ none) (k := 0) (p := (0, 1, 4)) rfl 2 (.int .i64 4) rfl
  simp only [Nat.zero_mul, Nat.add_zero] at e0 e1 e2
  go_upto_region 12 with fail
  have hN := Bk.new w1d 197 #[.int .i64 0, .int .i64 1, .int .i64 4]
  have hlt := hL.lt
  have hh := (G.refl w1d none).alloc (.cells #[.int .i64 0, .int .i64 1, .int .i64 4] 197)
  replace hL := hL.quiet hh
  replace hn := hn.quiet hh
  replace hG := hG.trans hh
  clear hh e0 e1 e2
  generalize w1d.alloc (.cells #[.int .i64 0, .int .i64 1, .int .i64 4] 197) = w1e at hN hL hn hG ⊢
  generalize w1d.heap.size = n at hN hlt ⊢
  go_wp2_with fail
  refine (first_c _ _ _ (hL.rd 1 2 rfl (by omega)) hn).mono ?_; rintro e w2 ⟨rfl, hh⟩
  replace hL := hL.quiet hh
  replace hN := hN.quiet hh
  replace hG := hG.trans hh
  clear hh hn
  go_upto_region 14 with fail
  refine wp_region_held_drew (S := (fun w' : World => w'.cell? ⟨n, 0, none⟩ = some (.int .i64 0) ∧ w'.cell? ⟨n, 1, none⟩ = some (.int .i64 1) ∧ w'.cell? ⟨bb, bo, none⟩ = some (.string a) ∧ w'.cell? ⟨bb, bo + 2, none⟩ = some (.string b))) (by kernel_rfl) ?_ (fun hHeld => ?_)
  · exact ⟨(hN.drewN 1).cell 0, (hN.drewN 1).cell 1, (hcell.out _ hG.drew).1, (hcell.out _ hG.drew).2⟩
  replace hN : Bk _ _ _ _ := hN.drewN 1
  replace hL : Bk _ _ _ _ := hL.drewN 1
  replace hG := hG.drew
  change Bk w2.drew _ _ _ at hN hL
  generalize w2.drew = wd at hHeld hN hL hG ⊢
  refine wpAnyH_take (i := 0) (oi := { dst := some 49, op := Op.move (Operand.tmp 11), type := 157, pos := _, after := #[], guard := none }) (v := ?_) rfl (by kernel_rfl) (by kernel_rfl) (by kernel_rfl) (fun _ _ _ h => h) (Or.inl ⟨by rfl, ?_⟩) (by assumption) ?_
  rotate_left
  · (intro w hSw; obtain ⟨q0, q1, q2, q3⟩ := hSw; (go_simp <;> with_reducible rfl))
  try simp only [Act.put, List.setIfInBounds_toArray, List.set_cons_zero, List.set_cons_succ]
  refine wpAnyH_take (i := 1) (oi := { dst := some 50, op := Op.move (Operand.tmp 0), type := 162, pos := _, after := #[], guard := none }) (v := ?_) rfl (by kernel_rfl) (by kernel_rfl) (by kernel_rfl) (fun _ _ _ h => h) (Or.inl ⟨by rfl, ?_⟩) (by assumption) ?_
  rotate_left
  · (intro w hSw; obtain ⟨q0, q1, q2, q3⟩ := hSw; (go_simp <;> with_reducible rfl))
  try simp only [Act.put, List.setIfInBounds_toArray, List.set_cons_zero, List.set_cons_succ]
  refine wpAnyH_take (i := 2) (oi := { dst := some 51, op := Op.fieldAddr 197 (Operand.tmp 13) 0, type := 0, pos := _, after := #[], guard := none }) (v := ?_) rfl (by kernel_rfl) (by kernel_rfl) (by kernel_rfl) (fun _ _ _ h => h) (Or.inl ⟨by rfl, ?_⟩) (by assumption) ?_
  rotate_left
  · (intro w hSw; obtain ⟨q0, q1, q2, q3⟩ := hSw; (go_simp <;> with_reducible rfl))
  try simp only [Act.put, List.setIfInBounds_toArray, List.set_cons_zero, List.set_cons_succ]
  refine wpAnyH_take (i := 3) (oi := { dst := some 52, op := Op.load 3 (Operand.tmp 51), type := 3, pos := _, after := #[{ on := 2, ground := Ground.data }], guard := none }) (v := ?_) rfl (by kernel_rfl) (by kernel_rfl) (by kernel_rfl) (fun _ _ _ h => h) (Or.inl ⟨by rfl, ?_⟩) (by assumption) ?_
  rotate_left
  · (intro w hSw; obtain ⟨q0, q1, q2, q3⟩ := hSw; (go_simp <;> with_reducible rfl))
  try simp only [Act.put, List.setIfInBounds_toArray, List.set_cons_zero, List.set_cons_succ]
  refine wpAnyH_take (i := 4) (oi := { dst := some 53, op := Op.indexAddr 162 (Operand.tmp 50) (Operand.tmp 52), type := 0, pos := _, after := #[{ on := 1, ground := Ground.data }, { on := 3, ground := Ground.data }], guard := none }) (v := ?_) rfl (by kernel_rfl) (by kernel_rfl) (by kernel_rfl) (fun _ _ _ h => h) (Or.inl ⟨by rfl, ?_⟩) (by assumption) ?_
  rotate_left
  · (intro w hSw; obtain ⟨q0, q1, q2, q3⟩ := hSw; (go_simp <;> with_reducible rfl))
  try simp only [Act.put, List.setIfInBounds_toArray, List.set_cons_zero, List.set_cons_succ]
  refine wpAnyH_take (i := 5) (oi := { dst := some 54, op := Op.fieldAddr 161 (Operand.tmp 53) 0, type := 0, pos := _, after := #[{ on := 4, ground := Ground.data }], guard := none }) (v := ?_) rfl (by kernel_rfl) (by kernel_rfl) (by kernel_rfl) (fun _ _ _ h => h) (Or.inl ⟨by rfl, ?_⟩) (by assumption) ?_
  rotate_left
  · (intro w hSw; obtain ⟨q0, q1, q2, q3⟩ := hSw; (go_simp <;> with_reducible rfl))
  try simp only [Act.put, List.setIfInBounds_toArray, List.set_cons_zero, List.set_cons_succ]
  refine wpAnyH_take (i := 6) (oi := { dst := some 55, op := Op.load 9 (Operand.tmp 54), type := 9, pos := _, after := #[{ on := 5, ground := Ground.data }], guard := none }) (v := ?_) rfl (by kernel_rfl) (by kernel_rfl) (by kernel_rfl) (fun _ _ _ h => h) (Or.inl ⟨by rfl, ?_⟩) (by assumption) ?_
  rotate_left
  · (intro w hSw; obtain ⟨q0, q1, q2, q3⟩ := hSw; (go_simp <;> with_reducible rfl))
  try simp only [Act.put, List.setIfInBounds_toArray, List.set_cons_zero, List.set_cons_succ]
  refine wpAnyH_take (i := 7) (oi := { dst := some 56, op := Op.move (Operand.tmp 0), type := 162, pos := _, after := #[], guard := none }) (v := ?_) rfl (by kernel_rfl) (by kernel_rfl) (by kernel_rfl) (fun _ _ _ h => h) (Or.inl ⟨by rfl, ?_⟩) (by assumption) ?_
  rotate_left
  · (intro w hSw; obtain ⟨q0, q1, q2, q3⟩ := hSw; (go_simp <;> with_reducible rfl))
  try simp only [Act.put, List.setIfInBounds_toArray, List.set_cons_zero, List.set_cons_succ]
  refine wpAnyH_take (i := 8) (oi := { dst := some 57, op := Op.fieldAddr 197 (Operand.tmp 13) 1, type := 0, pos := _, after := #[], guard := none }) (v := ?_) rfl (by kernel_rfl) (by kernel_rfl) (by kernel_rfl) (fun _ _ _ h => h) (Or.inl ⟨by rfl, ?_⟩) (by assumption) ?_
  rotate_left
  · (intro w hSw; obtain ⟨q0, q1, q2, q3⟩ := hSw; (go_simp <;> with_reducible rfl))
  try simp only [Act.put, List.setIfInBounds_toArray, List.set_cons_zero, List.set_cons_succ]
  refine wpAnyH_take (i := 9) (oi := { dst := some 58, op := Op.load 3 (Operand.tmp 57), type := 3, pos := _, after := #[{ on := 8, ground := Ground.data }], guard := none }) (v := ?_) rfl (by kernel_rfl) (by kernel_rfl) (by kernel_rfl) (fun _ _ _ h => h) (Or.inl ⟨by rfl, ?_⟩) (by assumption) ?_
  rotate_left
  · (intro w hSw; obtain ⟨q0, q1, q2, q3⟩ := hSw; (go_simp <;> with_reducible rfl))
  try simp only [Act.put, List.setIfInBounds_toArray, List.set_cons_zero, List.set_cons_succ]
  refine wpAnyH_take (i := 10) (oi := { dst := some 59, op := Op.indexAddr 162 (Operand.tmp 56) (Operand.tmp 58), type := 0, pos := _, after := #[{ on := 7, ground := Ground.data }, { on := 9, ground := Ground.data }], guard := none }) (v := ?_) rfl (by kernel_rfl) (by kernel_rfl) (by kernel_rfl) (fun _ _ _ h => h) (Or.inl ⟨by rfl, ?_⟩) (by assumption) ?_
  rotate_left
  · (intro w hSw; obtain ⟨q0, q1, q2, q3⟩ := hSw; (go_simp <;> with_reducible rfl))
  try simp only [Act.put, List.setIfInBounds_toArray, List.set_cons_zero, List.set_cons_succ]
  refine wpAnyH_take (i := 11) (oi := { dst := some 60, op := Op.fieldAddr 161 (Operand.tmp 59) 0, type := 0, pos := _, after := #[{ on := 10, ground := Ground.data }], guard := none }) (v := ?_) rfl (by kernel_rfl) (by kernel_rfl) (by kernel_rfl) (fun _ _ _ h => h) (Or.inl ⟨by rfl, ?_⟩) (by assumption) ?_
  rotate_left
  · (intro w hSw; obtain ⟨q0, q1, q2, q3⟩ := hSw; (go_simp <;> with_reducible rfl))
  try simp only [Act.put, List.setIfInBounds_toArray, List.set_cons_zero, List.set_cons_succ]
  refine wpAnyH_take (i := 12) (oi := { dst := some 61, op := Op.load 9 (Operand.tmp 60), type := 9, pos := _, after := #[{ on := 11, ground := Ground.data }], guard := none }) (v := ?_) rfl (by kernel_rfl) (by kernel_rfl) (by kernel_rfl) (fun _ _ _ h => h) (Or.inl ⟨by rfl, ?_⟩) (by assumption) ?_
  rotate_left
  · (intro w hSw; obtain ⟨q0, q1, q2, q3⟩ := hSw; (go_simp <;> with_reducible rfl))
  try simp only [Act.put, List.setIfInBounds_toArray, List.set_cons_zero, List.set_cons_succ]
  refine wpAnyH_take (i := 13) (oi := { dst := some 62, op := Op.move (Operand.tmp 14), type := 3, pos := _, after := #[], guard := none }) (v := ?_) rfl (by kernel_rfl) (by kernel_rfl) (by kernel_rfl) (fun _ _ _ h => h) (Or.inl ⟨by rfl, ?_⟩) (by assumption) ?_
  rotate_left
  · (intro w hSw; obtain ⟨q0, q1, q2, q3⟩ := hSw; (go_simp <;> with_reducible rfl))
  try simp only [Act.put, List.setIfInBounds_toArray, List.set_cons_zero, List.set_cons_succ]
  refine wpAnyH_take (i := 14) (oi := { dst := some 63, op := Op.build 168 #[(0, Operand.tmp 55), (1, Operand.tmp 61), (2, Operand.tmp 62)], type := 168, pos := _, after := #[{ on := 6, ground := Ground.data }, { on := 12, ground := Ground.data }, { on := 13, ground := Ground.data }], guard := none }) (v := ?_) rfl (by kernel_rfl) (by kernel_rfl) (by kernel_rfl) (fun _ _ _ h => h) (Or.inl ⟨by rfl, ?_⟩) (by assumption) ?_
  rotate_left
  · (intro w hSw; obtain ⟨q0, q1, q2, q3⟩ := hSw; (go_simp <;> with_reducible rfl))
  try simp only [Act.put, List.setIfInBounds_toArray, List.set_cons_zero, List.set_cons_succ]
  refine wpAnyH_ready (rs := [15]) (by kernel_rfl) (by simp) ?_
  refine (AllReadyH.cons (o := { dst := some 64, op := Op.buildSlice 157 1 #[(0, Operand.tmp 63)], type := 157, pos := _, after := #[{ on := 14, ground := Ground.data }], guard := none }) rfl (fun K hK => ?_) AllReadyH.nil)
  go_simp
  have hT := Bk.new wd 168 #[.string a, .string b, .int .i64 1]
  have hh := (G.refl wd none).alloc (.cells #[.string a, .string b, .int .i64 1] 168)
  replace hN := hN.quiet hh
  replace hL := hL.quiet hh
  replace hG := hG.trans hh
  clear hh
  generalize wd.alloc (.cells #[.string a, .string b, .int .i64 1] 168) = we at hT hN hL hG ⊢
  generalize wd.heap.size = gm at hT ⊢
  refine hK.out _ _ ?_ (fun hHeld => ?_)
  · exact ⟨hN.cell 0, hN.cell 1, (hcell.out _ hG).1, (hcell.out _ hG).2⟩
  clear hK K
  try simp only [Act.put, List.setIfInBounds_toArray, List.set_cons_zero, List.set_cons_succ]
  refine wpAnyH_ready (rs := [16]) (by kernel_rfl) (by simp) ?_
  refine (AllReadyH.cons (o := { dst := some 65, op := Op.call { callee := Callee.builtin Builtin.append, args := #[Operand.tmp 49, Operand.tmp 64], argTypes := #[157, 157] }, type := 157, pos := _, after := #[{ on := 0, ground := Ground.data }, { on := 15, ground := Ground.data }], guard := none }) rfl (fun K hK => ?_) AllReadyH.nil)
  have hsz := hG.size
  refine st_wp rfl (wp_append_x mv_rowOk _ _ rfl w.heap.size (.slice none 0 0) [] rfl (World.ownsRow_nil _ _ _ _) gm (a, b, 1) rfl hT (by simp) hsz ?_)
  intro v8 wf hown8 hgrow
  have hh : G we wf none := hgrow
  replace hN := hN.quiet hh
  replace hL := hL.quiet hh
  replace hG := hG.trans hh
  clear hh hgrow
  refine hK.out _ _ ?_ (fun hHeld => ?_)
  · exact ⟨hN.cell 0, hN.cell 1, (hcell.out _ hG).1, (hcell.out _ hG).2⟩
  clear hK K
  try simp only [Act.put, List.setIfInBounds_toArray, List.set_cons_zero, List.set_cons_succ]
  refine wpAnyH_take (i := 17) (oi := { dst := some 11, op := Op.assign (Operand.tmp 65), type := 157, pos := _, after := #[{ on := 16, ground := Ground.data }, { on := 16, ground := Ground.chain }, { on := 0, ground := Ground.phase }, { on := 1, ground := Ground.phase }, { on := 2, ground := Ground.phase }, { on := 3, ground := Ground.phase }, { on := 4, ground := Ground.phase }, { on := 5, ground := Ground.phase }, { on := 6, ground := Ground.phase }, { on := 7, ground := Ground.phase }, { on := 8, ground := Ground.phase }, { on := 9, ground := Ground.phase }, { on := 10, ground := Ground.phase }, { on := 11, ground := Ground.phase }, { on := 12, ground := Ground.phase }, { on := 13, ground := Ground.phase }, { on := 14, ground := Ground.phase }, { on := 15, ground := Ground.phase }, { on := 16, ground := Ground.phase }], guard := none }) (v := ?_) rfl (by kernel_rfl) (by kernel_rfl) (by kernel_rfl) (fun _ _ _ h => h) (Or.inl ⟨by rfl, ?_⟩) (by assumption) ?_
  rotate_left
  · (intro w hSw; obtain ⟨q0, q1, q2, q3⟩ := hSw; (go_simp <;> with_reducible rfl))
  try simp only [Act.put, List.setIfInBounds_toArray, List.set_cons_zero, List.set_cons_succ]
  refine wpAnyH_done (by kernel_rfl) ?_ _
  clear hHeld
  have n0 : wf.cell? ⟨n, 0, none⟩ = some (.int .i64 0) := hN.cell 0
  have n1 : wf.cell? ⟨n, 1, none⟩ = some (.int .i64 1) := hN.cell 1
  have n2 : wf.cell? ⟨n, 2, none⟩ = some (.int .i64 4) := hN.cell 2
  have l0 : wf.cell? ⟨gl, 0, none⟩ = some (.int .i64 1) := hL.cell 0
  have l1 : wf.cell? ⟨gl, 1, none⟩ = some (.int .i64 (-1)) := hL.cell 1
  have f0 : wf.frozen? ⟨gl, 0, none⟩ = false := hL.free 0
  have f1 : wf.frozen? ⟨gl, 1, none⟩ = false := hL.free 1
  have hng : n ≠ gl := by omega
  go_wp2_with fail
  rw [rounds_succ]
  go_wp2_with fail
  go_ret2
  have hne := OwnX.apx hown8 hL (by decide)
  exact ⟨v8, rfl, Rd.of_owns (OwnX.far (OwnX.far hown8 (p := ⟨gl, 0, none⟩) hne _) (p := ⟨gl, 1, none⟩) hne _), (hG.setCell (p := ⟨gl, 0, none⟩) (.inl hgs) _).setCell (p := ⟨gl, 1, none⟩) (.inl hgs) _⟩
end Go.Proofs.YtddedckehllkoaaDoor
