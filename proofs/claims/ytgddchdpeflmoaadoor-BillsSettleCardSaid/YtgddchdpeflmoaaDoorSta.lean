/- Stations: rightHours, CheckStations, StationsFault. -/
import Derived.Test.YtgddchdpeflmoaaDoorGenT
import Derived.Test.YtgddchdpeflmoaaDoorRkey
namespace Go.Proofs.YtgddchdpeflmoaaDoor
open Go.RowKit

/-- The fourteen cells of a station's hours. -/
def hrC (h : Nat → Int) : Array Value := #[.int .i64 (h 0), .int .i64 (h 1), .int .i64 (h 2), .int .i64 (h 3), .int .i64 (h 4), .int .i64 (h 5), .int .i64 (h 6), .int .i64 (h 7), .int .i64 (h 8), .int .i64 (h 9), .int .i64 (h 10), .int .i64 (h 11), .int .i64 (h 12), .int .i64 (h 13)]
/-- The hours of a day are right. -/
def okDay (h : Nat → Int) (i : Nat) : Bool := inB (h (i * 2)) 0 (h (i * 2 + 1)) && decide (h (i * 2 + 1) ≤ 1440)
def okHrs (h : Nat → Int) : Bool := (List.range 7).all (okDay h)
theorem okHrs_no {h : Nat → Int} {k : Nat} (hk : k < 7) (hd : okDay h k = false) : okHrs h = false := by
  unfold okHrs
  rw [List.all_eq_false]
  exact ⟨k, List.mem_range.2 hk, by simp [hd]⟩
theorem okHrs_yes {h : Nat → Int} (hd : (List.range 7).all (okDay h) = true) : okHrs h = true := hd
theorem range_snoc (h : Nat → Int) (k : Nat) : (List.range (k + 1)).all (okDay h) = ((List.range k).all (okDay h) && okDay h k) := by
  rw [List.range_succ, List.all_append, List.all_cons, List.all_nil, Bool.and_true]
theorem index_hr (h : Nat → Int) (k : Nat) (hk : k < 7) (w : World) : (Instr.index 57 (.agg (hrC h)) (.int .i64 (k : Int))).run Tryd.prog w = .ok (.agg #[.int .i64 (h (k * 2)), .int .i64 (h (k * 2 + 1))]) w := by
  match k, hk with
  | 0, _ => show _ = _; kernel_rfl
  | 1, _ => show _ = _; kernel_rfl
  | 2, _ => show _ = _; kernel_rfl
  | 3, _ => show _ = _; kernel_rfl
  | 4, _ => show _ = _; kernel_rfl
  | 5, _ => show _ = _; kernel_rfl
  | 6, _ => show _ = _; kernel_rfl
theorem hr_info (h : Nat → Int) : (Tryd.prog.info? 57).map (·.size) = some (hrC h).size := (by kernel_rfl : (Tryd.prog.info? 57).map (·.size) = some 14)

def DaysRel (w : World) (h : Nat → Int) (i : Value) (wr : World) : Prop := ∃ k : Nat, k ≤ 7 ∧ i = .int .i64 k ∧ (List.range k).all (okDay h) = true ∧ G w wr none
set_option maxRecDepth 100000 in
set_option maxHeartbeats 1000000 in
theorem rightHours_c (h : Nat → Int) (w : World) : Calls Tryd.prog 55 #[.agg (hrC h)] w fun e w' => e = .returned (.bool (okHrs h)) ∧ G w w' none := by
  go_enter Tryd.func55, Tryd.ntmps55
  go_wp2_with (refine wpList_load_row rfl 57 _ rfl w.heap.size rfl 57 (hrC h) (0, 0) _ (Bk.new w _ _) Tryd.underlying57 rfl (hr_info _) ?_)
  go_loopw [6] (DaysRel w h) (fun i _ => 7 - (intOf i).toNat)
  case atStart => exact ⟨0, by omega, rfl, rfl, (G.refl _ _).alloc _⟩
  case round =>
    obtain ⟨k, hk7, rfl, hall, hG⟩ := hrel
    have HA := Lib.hid hall
    clear hall
    by_cases hk : k < 7
    · have hix := index_hr h k hk wr
      have hd : okDay h k = (decide (0 ≤ h (k * 2)) && decide (h (k * 2) ≤ h (k * 2 + 1)) && decide (h (k * 2 + 1) ≤ 1440)) := rfl
      have HD := Lib.hid hd
      clear hd
      by_cases h1 : 0 ≤ h (k * 2)
      · by_cases h2 : h (k * 2) ≤ h (k * 2 + 1)
        · by_cases h3 : h (k * 2 + 1) ≤ 1440
          · have hok : okDay h k = true := by rw [HD.out]; simp [h1, h2, h3]
            have HN := Lib.hid (show (List.range (k + 1)).all (okDay h) = true by rw [range_snoc, HA.out, hok]; rfl)
            clear hok
            go_wp2_with fail
            go_roundw
            case rel => exact ⟨k + 1, by omega, by go_num, HN.out, hG.alloc _⟩
            case measure => simp [intOf]; omega
          · have H := Lib.hid (okHrs_no hk (show okDay h k = false by rw [HD.out]; simp [h3]))
            go_wp2_with fail
            go_ret
            exact ⟨ret_bool H.out.symm, hG.alloc _⟩
        · have H := Lib.hid (okHrs_no hk (show okDay h k = false by rw [HD.out]; simp [h2]))
          go_wp2_with fail
          go_ret
          exact ⟨ret_bool H.out.symm, hG.alloc _⟩
      · have H := Lib.hid (okHrs_no hk (show okDay h k = false by rw [HD.out]; simp [h1]))
        go_wp2_with fail
        go_ret
        exact ⟨ret_bool H.out.symm, hG.alloc _⟩
    · obtain rfl : k = 7 := by omega
      go_wp2_with fail
      go_ret
      exact ⟨ret_bool HA.out.symm, hG⟩

/-! ### CheckStations, StationsFault -/
/-- Go's '<=' of strings. -/
def leB (a b : ByteArray) : Bool := Op.bytesLess a.toList b.toList || a.toList == b.toList
def staErr (before : ByteArray) : List Sta → Int
  | [] => 0
  | p :: r => if keyB p.1 = false then 5 else if leB p.1 before = true then 7 else if okHrs p.2 = false then 1 else staErr p.1 r
def stErr (l : List Sta) : Int := if 50 < l.length then 2 else staErr ⟨#[]⟩ l
theorem stL_at (l : List Sta) (k : Nat) (p : Sta) (hp : l[k]? = some p) : ∀ j v, (stC p.1 p.2).toList[j]? = some v → (stL l)[k * 15 + j]? = some v := by
  induction l generalizing k with
  | nil => simp at hp
  | cons q r ih =>
    intro j v hv
    have hl : (stC q.1 q.2).toList.length = 15 := rfl
    rw [show stL (q :: r) = (stC q.1 q.2).toList ++ stL r from rfl]
    cases k with
    | zero =>
      obtain rfl : q = p := by simpa using hp
      have hj : j < 15 := by rw [← hl]; exact (List.getElem?_eq_some_iff.1 hv).1
      rw [Nat.zero_mul, Nat.zero_add, List.getElem?_append_left (by rw [hl]; exact hj)]
      exact hv
    | succ k =>
      rw [List.getElem?_append_right (by rw [hl]; omega), hl, show (k + 1) * 15 + j - 15 = k * 15 + j by omega]
      exact ih k (by simpa using hp) j v hv
/-- What every key of such a list meets. -/
def KeysOk (l : List Sta) : Prop := ∀ p ∈ l, p.1.size ≤ 9223372036854775807 ∧ HB p.2
def ChkRel (w : World) (l : List Sta) (v i : Value) (wr : World) : Prop :=
  ∃ (k : Nat) (b : ByteArray), k ≤ l.length ∧ i = .int .i64 k ∧ v = .string b ∧ staErr ⟨#[]⟩ l = staErr b (l.drop k) ∧ G w wr none
set_option maxRecDepth 100000 in
set_option maxHeartbeats 2000000 in
theorem checkStations_c (v : Value) (l : List Sta) (w : World) (hr : Rd w 15 v l.length (stL l)) (hl : KeysOk l) (hn : l.length ≤ 1000) :
    Calls Tryd.prog 42 #[v] w fun e w' => e = .returned (.int .i64 (stErr l)) ∧ G w w' none := by
  obtain ⟨a, cap, rfl, hcap, hm, hlen, hnil, hcell⟩ := hr
  by_cases h50 : 50 < l.length
  · have H := Lib.hid (show stErr l = 2 by simp [stErr, h50])
    go_enter Tryd.func42, Tryd.ntmps42
    go_wp2_with fail
    go_ret
    exact ⟨by rw [H.out]; rfl, G.refl _ _⟩
  · have H := Lib.hid (show stErr l = staErr ⟨#[]⟩ l by simp [stErr, h50])
    go_enter Tryd.func42, Tryd.ntmps42
    go_wp2_with fail
    go_loopw [3, 11] (ChkRel w l) (fun _ i _ => l.length - (intOf i).toNat)
    case atStart => exact ⟨0, ⟨#[]⟩, by omega, rfl, rfl, rfl, G.refl _ _⟩
    case round =>
      obtain ⟨k, b, hkl, rfl, rfl, heq, hG⟩ := hrel
      have HE := Lib.hid heq
      clear heq
      by_cases hk : k < l.length
      · obtain ⟨p, hp⟩ : ∃ p, l[k]? = some p := ⟨_, List.getElem?_eq_getElem hk⟩
        have hdrop : l.drop k = p :: l.drop (k + 1) := by rw [List.drop_eq_getElem_cons hk, ← (List.getElem?_eq_some_iff.1 hp).2]
        have hpl := hl p (List.mem_of_getElem? hp)
        cases a with
        | none => have := (hnil rfl).1; omega
        | some ad =>
          obtain ⟨bb, bo, bs⟩ := ad
          obtain ⟨e1, e2, e3⟩ := hcell _ rfl
          dsimp only at e1 e2 e3
          subst e1
          have hrow : ∀ j v, (stC p.1 p.2).toList[j]? = some v → wr.cell? ((⟨bb, bo + k * 15, none⟩ : Addr).add j) = some v := by
            intro j v hv
            rw [add_at]
            have h1 := e3 (k * 15 + j) v (stL_at l k p hp j v hv)
            rw [← Nat.add_assoc] at h1
            exact ((gcell hG).1 bb _ e2).trans h1
          have HR := Lib.hid hrow
          clear hrow hcell e3 hnil
          have hs1 := hpl.1
          have HS : Hid (staErr b (l.drop k) = if keyB p.1 = false then 5 else if leB p.1 b = true then 7 else if okHrs p.2 = false then 1 else staErr p.1 (l.drop (k + 1))) := Lib.hid (by rw [hdrop]; rfl)
          clear hdrop
          go_wp2_with (refine wpList_load_at rfl 59 _ rfl ⟨bb, bo + k * 15, none⟩ rfl #[.string p.1, .int .i64 (p.2 0), .int .i64 (p.2 1), .int .i64 (p.2 2), .int .i64 (p.2 3), .int .i64 (p.2 4), .int .i64 (p.2 5), .int .i64 (p.2 6), .int .i64 (p.2 7), .int .i64 (p.2 8), .int .i64 (p.2 9), .int .i64 (p.2 10), .int .i64 (p.2 11), .int .i64 (p.2 12), .int .i64 (p.2 13)] _ HR.out Tryd.underlying59 rfl (st_info _ _) ?_)
          refine (isKey_c _ _ hs1).mono ?_; rintro e w' ⟨rfl, rfl⟩
          cases hkb : keyB p.1 with
          | false =>
            have HF : Hid (stErr l = 5) := Lib.hid (by rw [H.out, HE.out, HS.out, if_pos hkb])
            clear hkb
            go_wp2_with fail
            go_ret
            exact ⟨by rw [HF.out]; rfl, hG.alloc _⟩
          | true =>
            cases hle : leB p.1 b with
            | true =>
              have HF : Hid (stErr l = 7) := Lib.hid (by rw [H.out, HE.out, HS.out, if_neg (by simp [hkb]), if_pos hle])
              unfold leB at hle
              clear hkb
              go_wp2_with fail
              go_ret
              exact ⟨by rw [HF.out]; rfl, hG.alloc _⟩
            | false =>
              have HL := Lib.hid hle
              have HK := Lib.hid hkb
              unfold leB at hle
              clear hkb
              go_wp2_with fail
              refine (rightHours_c p.2 _).mono ?_; rintro e w2 ⟨rfl, hG2⟩
              have hc0 : w2.cell? ⟨wr.heap.size, 0, none⟩ = some (.string p.1) := ((gcell hG2).1 _ 0 (by simp)).trans ((Bk.new wr 59 #[.string p.1, .int .i64 (p.2 0), .int .i64 (p.2 1), .int .i64 (p.2 2), .int .i64 (p.2 3), .int .i64 (p.2 4), .int .i64 (p.2 5), .int .i64 (p.2 6), .int .i64 (p.2 7), .int .i64 (p.2 8), .int .i64 (p.2 9), .int .i64 (p.2 10), .int .i64 (p.2 11), .int .i64 (p.2 12), .int .i64 (p.2 13)]).cell 0)
              have hG3 := (hG.alloc _).trans hG2
              clear hG2
              cases hok : okHrs p.2 with
              | false =>
                have HF : Hid (stErr l = 1) := Lib.hid (by rw [H.out, HE.out, HS.out, if_neg (by simp [HK.out]), if_neg (by simp [HL.out]), if_pos hok])
                clear hok
                go_wp2_with fail
                go_ret
                exact ⟨by rw [HF.out]; rfl, hG3⟩
              | true =>
                have HF : Hid (staErr ⟨#[]⟩ l = staErr p.1 (l.drop (k + 1))) := Lib.hid (by rw [HE.out, HS.out, if_neg (by simp [HK.out]), if_neg (by simp [HL.out]), if_neg (by simp [hok])])
                clear hok
                go_wp2_with fail
                go_roundw
                case rel => exact ⟨k + 1, p.1, by omega, by go_num, rfl, HF.out, hG3⟩
                case measure => simp [intOf]; omega
      · obtain rfl : k = l.length := by omega
        have HE2 : Hid (stErr l = 0) := Lib.hid (by rw [H.out, HE.out, List.drop_length]; rfl)
        go_wp2_with fail
        go_ret
        exact ⟨by rw [HE2.out]; rfl, hG⟩
end Go.Proofs.YtgddchdpeflmoaaDoor
