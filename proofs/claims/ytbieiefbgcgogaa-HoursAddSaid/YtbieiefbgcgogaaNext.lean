/- NextOpen; OpenAt, NextOpenOf. -/
import Derived.Test.YtbieiefbgcgogaaOpen
namespace Go.Proofs.Ytbieiefbgcgogaa
open Go.RowKit

/-- The first of so many days at which something is so. -/
def find (c : Nat → Bool) (v : Nat → Int) : Nat → Nat → Option Int
  | 0, _ => none
  | n + 1, d => if c d = true then some (v d) else find c v n (d + 1)
def cC (h : Nat → Int) (t : Nat) (d : Nat) : Bool := decide (max (t : Int) (dFrom h d) < dTo h d)
def vC (h : Nat → Int) (t : Nat) (d : Nat) : Int := max (t : Int) (dFrom h d)
def kC (t : Nat) : Nat := min 7 (4000 - t / 1440) + 1
def nextO (h : Nat → Int) (t : Nat) : Option Int := find (cC h t) (vC h t) (kC t) (t / 1440)
/-- What NextOpen returns. -/
def nextR (r : ByteArray) (h : Nat → Int) (t : Int) : Int × Int :=
  if atE r h t = 0 then (match nextO h t.toNat with | some n => (n, 0) | none => (0, 8)) else (0, atE r h t)
theorem dFrom_bd {h : Nat → Int} (hb : HB h) (d : Nat) : (d : Int) * 1440 - 1099511627776 ≤ dFrom h d ∧ dFrom h d ≤ (d : Int) * 1440 + 1099511627776 := by
  have := hb (d % 7 * 2); unfold dFrom; omega
theorem dTo_bd {h : Nat → Int} (hb : HB h) (d : Nat) : (d : Int) * 1440 - 1099511627776 ≤ dTo h d ∧ dTo h d ≤ (d : Int) * 1440 + 1099511627776 := by
  have := hb (d % 7 * 2 + 1); unfold dTo; omega
def NextRel (w : World) (r : ByteArray) (h : Nat → Int) (t d0 : Nat) (i : Value) (wr : World) : Prop :=
  ∃ k : Nat, k ≤ kC t ∧ i = .int .i64 ((d0 : Int) + (k : Int)) ∧ nextO h t = find (cC h t) (vC h t) (kC t - k) (d0 + k) ∧ G w wr none ∧ Bk wr w.heap.size 30 (stC r h)
set_option maxRecDepth 100000 in
set_option maxHeartbeats 2000000 in
theorem nextOpen_c (r : ByteArray) (h : Nat → Int) (t : Int) (w : World) (hr : r.size ≤ 9223372036854775807) (hb : HB h) :
    Calls Try.prog 8 #[.agg (stC r h), .int .i64 t] w fun e w' => e = .returned (.tuple #[.int .i64 (nextR r h t).1, .int .i64 (nextR r h t).2]) ∧ G w w' none := by
  by_cases h0 : atE r h t = 0
  · obtain ⟨t0, t1, _⟩ := atE_mom h0
    obtain ⟨t, rfl⟩ := Int.eq_ofNat_of_zero_le t0
    have HZ := Lib.hid h0
    have HS : Hid (∀ o, nextO h t = o → nextR r h (t : Int) = (match o with | some n => (n, 0) | none => (0, 8))) := Lib.hid (by intro o ho; subst ho; simp [nextR, h0])
    clear h0
    obtain ⟨d0, hd0⟩ : ∃ d0 : Nat, t / 1440 = d0 := ⟨_, rfl⟩
    have HD := Lib.hid hd0
    have hdq : (t : Int) / 1440 = (d0 : Int) := by omega
    have hk9 : d0 ≤ 4000 := by omega
    clear hd0 t1
    go_enter Try.func8, Try.ntmps8
    go_wp2_with (refine wpList_load_row rfl 30 _ rfl w.heap.size rfl 30 (stC r h) (0, 0) _ (Bk.new w _ _) Try.underlying30 rfl (st_info _ _) ?_)
    refine (checkStationAt_c r h _ _ hr hb).mono ?_; rintro e w1 ⟨rfl, hG1⟩
    rw [HZ.out]
    have hB1 := (Bk.new w 30 (stC r h)).quiet hG1
    have hG : G w w1 none := ((G.refl w none).alloc _).trans hG1
    clear hG1
    go_wp2_with fail
    go_loopw [8] (NextRel w r h t d0) (fun i _ => (4010 - (intOf i)).toNat)
    case atStart => exact ⟨0, by omega, congrArg (Value.int .i64) (by omega), by rw [← HD.out]; rfl, hG, hB1⟩
    case round =>
      obtain ⟨k, hk, rfl, heq, hG2, hB2⟩ := hrel
      have hkC : kC t = min 7 (4000 - d0) + 1 := by rw [← HD.out]; rfl
      have HE := Lib.hid heq
      clear heq hG hB1
      by_cases hlt : k < kC t
      · have hk7 : k ≤ 7 := by omega
        have hk8 : d0 + k ≤ 4000 := by omega
        have HF : Hid (nextO h t = if cC h t (d0 + k) = true then some (vC h t (d0 + k)) else find (cC h t) (vC h t) (kC t - (k + 1)) (d0 + (k + 1))) := Lib.hid (by rw [HE.out, show kC t - k = (kC t - (k + 1)) + 1 by omega]; rfl)
        have HL : Hid (k + 1 ≤ kC t) := Lib.hid (by omega)
        clear hkC hlt hk
        go_wp2_with (refine wpList_load_row rfl 30 _ rfl w.heap.size rfl 30 (stC r h) (0, 0) _ hB2 Try.underlying30 rfl (st_info _ _) ?_)
        rw [show (d0 : Int) + (k : Int) = ((d0 + k : Nat) : Int) by omega]
        refine (hoursOn_c r h (d0 + k) _ hb (by omega)).mono ?_; rintro e w2 ⟨rfl, hG3⟩
        have hG4 := hG2.trans hG3
        have hB4 := hB2.quiet hG3
        have hV : vC h t (d0 + k) = max (t : Int) (dFrom h (d0 + k)) := rfl
        have hC : cC h t (d0 + k) = decide (max (t : Int) (dFrom h (d0 + k)) < dTo h (d0 + k)) := rfl
        clear hG2 hG3 hB2
        by_cases hc : max (t : Int) (dFrom h (d0 + k)) < dTo h (d0 + k)
        · have HN : Hid (nextR r h (t : Int) = (max (t : Int) (dFrom h (d0 + k)), 0)) := Lib.hid (by rw [HS.out _ HF.out, hC, hV]; simp [hc])
          have HC := Lib.hid hc
          clear hV hC hc HF HS
          generalize dFrom h (d0 + k) = x at HN HC ⊢
          generalize dTo h (d0 + k) = z at HN HC ⊢
          have hc1 : max (t : Int) x < z := HC.out
          clear hc1
          have hc1 : max (t : Int) x < z := HC.out
          go_wp2_with fail
          go_ret2
          exact ⟨by rw [HN.out]; rfl, hG4.alloc _⟩
        · have HN : Hid (nextO h t = find (cC h t) (vC h t) (kC t - (k + 1)) (d0 + (k + 1))) := Lib.hid (by rw [HF.out, hC]; simp [hc])
          have hz : dTo h (d0 + k) ≤ max (t : Int) (dFrom h (d0 + k)) := by omega
          clear hV hC hc HF HS
          generalize dFrom h (d0 + k) = x at hz ⊢
          generalize dTo h (d0 + k) = z at hz ⊢
          go_wp2_with fail
          refine ⟨⟨k + 1, HL.out, congrArg (Value.int .i64) (by omega), HN.out, hG4.alloc _, hB4.alloc _⟩, ?_⟩
          simp only [intOf]
          omega
      · obtain rfl : k = kC t := by omega
        have HN : Hid (nextR r h (t : Int) = (0, 8)) := Lib.hid (by rw [HS.out none (HE.out.trans (by rw [Nat.sub_self]; rfl))])
        have hk2 : d0 + kC t = min (d0 + 7) 4000 + 1 := by omega
        have hgt : min ((d0 : Int) + 7) 4000 < (d0 : Int) + (kC t : Int) := by omega
        have hsm : (kC t : Int) ≤ 8 := by omega
        clear hkC hk hk2 hlt
        generalize kC t = q at hgt hsm ⊢
        go_wp2_with fail
        go_ret2
        exact ⟨by rw [HN.out]; rfl, hG2⟩
  · have H : Hid (nextR r h t = (0, atE r h t)) := Lib.hid (by simp [nextR, h0])
    have h1 : (atE r h t != 0) = true := by rw [bne_iff_ne]; exact h0
    clear h0
    go_enter Try.func8, Try.ntmps8
    go_wp2_with (refine wpList_load_row rfl 30 _ rfl w.heap.size rfl 30 (stC r h) (0, 0) _ (Bk.new w _ _) Try.underlying30 rfl (st_info _ _) ?_)
    refine (checkStationAt_c r h _ _ hr hb).mono ?_; rintro e w1 ⟨rfl, hG1⟩
    go_wp2_with fail
    go_ret2
    exact ⟨by rw [H.out]; rfl, ((G.refl w none).alloc _).trans hG1⟩

/-! ### The reference's -/
end Go.Proofs.Ytbieiefbgcgogaa
