/- Odds: Spread, over, checkUnits, Over, for any bookings. -/
import Derived.Test.YtgddchdpeflmoaaDoorOdc
namespace Go.Proofs.YtgddchdpeflmoaaDoor
open Go.RowKit

/-- A fraction in lowest terms. -/
def lowF (n d : Int) : Fr := (((n.toNat / Nat.gcd d.toNat n.toNat : Nat) : Int), ((d.toNat / Nat.gcd d.toNat n.toNat : Nat) : Int))
theorem lowest_i (n d : Int) (w : World) (n0 : 0 ≤ n) (hn : n ≤ 1000000000000000000) (d0 : 0 < d) (hd : d ≤ 1000000000000000000) :
    Calls Tryd.prog 36 #[.int .i64 n, .int .i64 d] w fun e w' => e = .returned (.agg (frV (lowF n d))) ∧ G w w' none := by
  obtain ⟨a, rfl⟩ := Int.eq_ofNat_of_zero_le n0
  obtain ⟨b, rfl⟩ := Int.eq_ofNat_of_zero_le (Int.le_of_lt d0)
  exact lowest_c a b w (by omega) (by omega) (by omega)
theorem boErr_pct {l : List Bo} : ∀ {b : ByteArray}, boErr b l = 0 → PcOk l := by
  induction l with
  | nil => intro b _ p hp; cases hp
  | cons y r ih =>
    intro b h
    unfold boErr at h
    split at h
    · exact absurd h (by decide)
    · split at h
      · exact absurd h (by decide)
      · split at h
        · exact absurd h (by decide)
        · split at h
          · exact absurd h (by decide)
          · rename_i h4
            intro p hp
            rcases List.mem_cons.1 (show p ∈ y.2.2.2.2.2 :: pcs r from hp) with rfl | hp
            · simp only [boT, inB, Bool.not_eq_false, Bool.and_eq_true, decide_eq_true_eq] at h4
              omega
            · exact ih h p hp
theorem coE_ok {l : List Bo} (h : coE l = 0) : PcOk l ∧ l.length ≤ 9 := by
  unfold coE at h
  split at h
  · rename_i h1
    split at h
    · exact absurd h (by decide)
    · refine ⟨?_, by omega⟩
      unfold boE at h1
      split at h1
      · exact absurd h1 (by decide)
      · exact boErr_pct h1
  · rename_i h1; exact absurd h h1
def spL (l : List Bo) : List Fr := (cas (pcs l)).map fun n => lowF n (100 ^ l.length)
theorem map_take_snoc {α β : Type} (f : α → β) {c : List α} {k : Nat} {x : α} (h : c[k]? = some x) : (c.take (k + 1)).map f = (c.take k).map f ++ [f x] := by
  have hk : k < c.length := (List.getElem?_eq_some_iff.1 h).1
  rw [List.take_succ_eq_append_getElem hk, (List.getElem?_eq_some_iff.1 h).2, List.map_append]
  rfl
def SpreadPost (l : List Bo) (w : World) (e : Ending) (w' : World) : Prop := ∃ u m, e = .returned (.tuple #[u, .int .i64 (coE l)]) ∧ RdR w' 2 frV u m ∧ m = (if coE l = 0 then spL l else []) ∧ G w w' none
def SpRel (w : World) (c : List Int) (H : Int) (g : Nat) (s7 s22 : Value) (wr : World) : Prop :=
  ∃ k : Nat, k ≤ c.length ∧ s22 = .int .i64 k ∧ OwnFr wr (g + 1) s7 ((c.take k).map fun n => lowF n H) ∧ Bk wr g 3 (ic c) ∧ w.heap.size ≤ g ∧ G w wr none
set_option maxRecDepth 100000 in
set_option maxHeartbeats 4000000 in
theorem spread_c (v : Value) (l : List Bo) (w : World) (hr : RdR w 6 boC v l) (hl : BoOk l) (hn : l.length ≤ 1000) :
    Calls Tryd.prog 24 #[v] w (SpreadPost l w) := by
  have HR := Lib.hid hr
  obtain ⟨ad, cap, rfl, hcap, hm⟩ := RdR.form hr
  clear hr
  go_enter Tryd.func24, Tryd.ntmps24
  go_wp2_with fail
  refine (checkOdds_c _ l _ HR.out hl hn).mono ?_; rintro e w1 ⟨rfl, hG1⟩
  by_cases h0 : coE l = 0
  · obtain ⟨hp, h9⟩ := coE_ok h0
    have HM : Hid ((if coE l = 0 then spL l else []) = (cas (pcs l)).map fun n => lowF n (100 ^ l.length)) := Lib.hid (by rw [if_pos h0]; rfl)
    have HZ := Lib.hid h0
    obtain ⟨cl, cn, cs⟩ := cas_ok (pcs l) hp
    have hpl : (pcs l).length = l.length := by unfold pcs; rw [List.length_map]
    rw [hpl] at cl cs
    have hH1 := pow_le l.length h9
    have hH0 := pow_pos100 l.length
    rw [h0]
    clear h0 hpl
    go_wp2_with fail
    refine (casesOf_c _ l _ (HR.out.quiet hG1) h9 hp).mono ?_; rintro e w2 ⟨g, rfl, hB2, hgw, hG2⟩
    have hG02 := hG1.trans hG2
    have hgw2 : w.heap.size ≤ g := Nat.le_trans hG1.size hgw
    clear hG1 hG2 hgw hp
    obtain ⟨c, hc⟩ : ∃ c, cas (pcs l) = c := ⟨_, rfl⟩
    obtain ⟨H, hH⟩ : ∃ H : Int, (100 : Int) ^ l.length = H := ⟨_, rfl⟩
    rw [hc, hH] at HM
    rw [hc] at cl cn cs hB2
    rw [hH] at cs hH1 hH0 ⊢
    clear hc hH
    go_wp2_with fail
    go_loopw [7, 22] (SpRel w c H g) (fun _ i _ => c.length - (intOf i).toNat)
    case atStart => exact ⟨0, by omega, rfl, World.ownsRow_nil _ _ _ _, hB2, hgw2, hG02⟩
    case round =>
      clear hB2 hgw2 hG02
      obtain ⟨k, hkc, rfl, hown, hB, hgw, hG⟩ := hrel
      by_cases hlt : k < l.length + 1
      · have hck : c[k]? = some (c.getD k 0) := by simp [List.getD, show k < c.length by omega]
        have hcell : wr.cell? ⟨g, k, none⟩ = some (.int .i64 (c.getD k 0)) := (hB.cell k).trans (ic_at c k (by omega))
        have HT : Hid ((c.take (k + 1)).map (fun n => lowF n H) = (c.take k).map (fun n => lowF n H) ++ [lowF (c.getD k 0) H]) := Lib.hid (map_take_snoc _ hck)
        have e0 := cn.getD k
        have e1 := cn.le_sum k
        have hkt : ((c.take k).map fun n => lowF n H).length ≤ 1000 := by rw [List.length_map, List.length_take]; omega
        have hki : (k : Int) < (l.length : Int) + 1 := by omega
        clear hck
        obtain ⟨x, hx⟩ : ∃ x, c.getD k 0 = x := ⟨_, rfl⟩
        rw [hx] at hcell HT e0 e1
        clear hx
        go_wp2_with fail
        refine (lowest_i x H _ e0 (by omega) hH0 hH1).mono ?_; rintro e w3 ⟨rfl, hG3⟩
        obtain ⟨F, hF⟩ : ∃ F, lowF x H = F := ⟨_, rfl⟩
        rw [hF] at HT ⊢
        clear hF
        rw [show frV F = #[.int .i64 F.1, .int .i64 F.2] from rfl]
        have hB3 := (hB.quiet hG3).alloc (.cells #[.int .i64 F.1, .int .i64 F.2] 81)
        have hown3 := (hown.quiet hG3).alloc (.cells #[.int .i64 F.1, .int .i64 F.2] 81)
        have hG03 := (hG.trans hG3).alloc (.cells #[.int .i64 F.1, .int .i64 F.2] 81)
        have hz3 := hB3.lt
        have hob := fun r e => (World.ownsRow.lt hown3 r e).1
        have hne : some g ≠ u7.ownBlock := fun e => by have := hob g e.symm; omega
        clear hB hown hG hG3 hcell
        go_wp2_with (at_builtin; refine wpList_plain rfl fun K' hK' => wp_append_fr _ _ rfl (g + 1) u7 _ rfl hown3 w3.heap.size F rfl (Bk.new w3 _ _) hkt hz3 ?_; intro v1 w4 hown4 hgrow; refine hK' _ _ ?_)
        go_roundw
        case rel => exact ⟨k + 1, by omega, by go_num, by rw [HT.out]; exact hown4, hB3.grown hgrow hne, hgw, hG03.other hgrow (fun r e => .inl (by have := hob r e; omega))⟩
        case measure => simp [intOf]; omega
      · obtain rfl : k = c.length := by omega
        have hnk : ¬ ((c.length : Int) < (l.length : Int) + 1) := by omega
        have hq : (c.take c.length).map (fun n => lowF n H) = c.map fun n => lowF n H := by rw [List.take_length]
        rw [hq] at hown
        clear hq
        go_wp2_with fail
        go_ret2
        exact ⟨_, _, by rw [HZ.out]; rfl, Rd.of_owns hown, HM.out.symm, hG⟩
  · have HZ : Hid ((if coE l = 0 then spL l else []) = []) := Lib.hid (by rw [if_neg h0])
    have h0' : (coE l != 0) = true := by rw [bne_iff_ne]; exact h0
    obtain ⟨E, hE⟩ : ∃ E, coE l = E := ⟨_, rfl⟩
    have HE := Lib.hid hE
    rw [hE] at h0' ⊢
    clear h0 hE
    go_wp2_with fail
    go_ret2
    exact ⟨_, [], by rw [HE.out]; rfl, RdR.nil _ _ _, HZ.out.symm, hG1⟩
end Go.Proofs.YtgddchdpeflmoaaDoor
