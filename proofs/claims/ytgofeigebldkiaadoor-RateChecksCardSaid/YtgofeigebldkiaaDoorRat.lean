/- Rates: compareRates, checkRate. -/
import Derived.Test.YtgofeigebldkiaaDoorFee
namespace Go.Proofs.YtgofeigebldkiaaDoor
open Go.RowKit

/-- A rate: class, from, to, hour, day, weekend, week. -/
abbrev Ra := ByteArray × Int × Int × Int × Int × Int × Int
def raC (x : Ra) : Array Value := #[.string x.1, .int .i64 x.2.1, .int .i64 x.2.2.1, .int .i64 x.2.2.2.1, .int .i64 x.2.2.2.2.1, .int .i64 x.2.2.2.2.2.1, .int .i64 x.2.2.2.2.2.2]
theorem raC_sz (x : Ra) : (raC x).size = 7 := rfl
theorem ra_info (x : Ra) : (Tryd.prog.info? 37).map (·.size) = some (raC x).size := (by kernel_rfl : (Tryd.prog.info? 37).map (·.size) = some 7)
def raB (x : Ra) : Prop := Small x.1 ∧ bnd x.2.1 ∧ bnd x.2.2.1 ∧ bnd x.2.2.2.1 ∧ bnd x.2.2.2.2.1 ∧ bnd x.2.2.2.2.2.1 ∧ bnd x.2.2.2.2.2.2
def RaOk (l : List Ra) : Prop := ∀ x ∈ l, raB x
def cmpS (x y : Int) : Int := if x < y then -1 else if y < x then 1 else 0
def cmpR (x y : Ra) : Int := orI (cmpI x.1 y.1) (cmpS x.2.1 y.2.1)
set_option maxRecDepth 100000 in
theorem isNaN_c (x : Int) (w : World) : Calls Tryd.prog 113 #[.int .i64 x] w fun e w' => e = .returned (.bool false) ∧ w = w' := by
  go_enter Tryd.func113, Tryd.ntmps113
  go_wp2_with fail
  go_ret
  exact ⟨ret_bool (by simp), rfl⟩
set_option maxRecDepth 100000 in
theorem cmpInt_c (x y : Int) (w : World) : Calls Tryd.prog 95 #[.int .i64 x, .int .i64 y] w fun e w' => e = .returned (.int .i64 (cmpS x y)) ∧ w = w' := by
  rcases (show x < y ∨ y < x ∨ x = y by omega) with h | h | h
  · have HF : Hid (cmpS x y = -1) := Lib.hid (by simp [cmpS, h])
    go_enter Tryd.func95, Tryd.ntmps95
    go_wp2_with fail
    refine (isNaN_c _ _).mono ?_; rintro e w' ⟨rfl, rfl⟩
    go_wp2_with fail
    refine (isNaN_c _ _).mono ?_; rintro e w' ⟨rfl, rfl⟩
    go_wp2_with fail
    go_ret
    exact ⟨by rw [HF.out]; rfl, rfl⟩
  · have HF : Hid (cmpS x y = 1) := Lib.hid (by rw [cmpS, if_neg (by omega), if_pos h])
    go_enter Tryd.func95, Tryd.ntmps95
    go_wp2_with fail
    refine (isNaN_c _ _).mono ?_; rintro e w' ⟨rfl, rfl⟩
    go_wp2_with fail
    refine (isNaN_c _ _).mono ?_; rintro e w' ⟨rfl, rfl⟩
    go_wp2_with fail
    go_ret
    exact ⟨by rw [HF.out]; rfl, rfl⟩
  · have HF : Hid (cmpS x y = 0) := Lib.hid (by rw [cmpS, if_neg (by omega), if_neg (by omega)])
    go_enter Tryd.func95, Tryd.ntmps95
    go_wp2_with fail
    refine (isNaN_c _ _).mono ?_; rintro e w' ⟨rfl, rfl⟩
    go_wp2_with fail
    refine (isNaN_c _ _).mono ?_; rintro e w' ⟨rfl, rfl⟩
    go_wp2_with fail
    go_ret
    exact ⟨by rw [HF.out]; rfl, rfl⟩
set_option maxRecDepth 100000 in
set_option maxHeartbeats 2000000 in
theorem compareRates_c (x y : Ra) (w : World) :
    Calls Tryd.prog 64 #[.agg (raC x), .agg (raC y)] w fun e w' => e = .returned (.int .i64 (cmpR x y)) ∧ G w w' none := by
  have hBx := (Bk.new w 37 (raC x)).alloc (.cells (raC y) 37)
  have hBy := Bk.newAt (w := w.alloc (.cells (raC x) 37)) (b := w.heap.size + 1) (by simp) 37 (raC y)
  have hG := ((G.refl w none).alloc (.cells (raC x) 37)).alloc (.cells (raC y) 37)
  have HF : Hid (orI (cmpI x.1 y.1) (cmpS x.2.1 y.2.1) = cmpR x y) := Lib.hid rfl
  go_enter Tryd.func64, Tryd.ntmps64
  go_wp2_with fail
  generalize ((w.alloc (.cells (raC x) 37)).alloc (.cells (raC y) 37)) = w3 at hBx hBy hG ⊢
  have c1 : w3.cell? ⟨w.heap.size, 0, none⟩ = some (.string x.1) := hBx.cell 0
  have c2 : w3.cell? ⟨w.heap.size, 1, none⟩ = some (.int .i64 x.2.1) := hBx.cell 1
  have c3 : w3.cell? ⟨w.heap.size + 1, 0, none⟩ = some (.string y.1) := hBy.cell 0
  have c4 : w3.cell? ⟨w.heap.size + 1, 1, none⟩ = some (.int .i64 y.2.1) := hBy.cell 1
  have hGd := hG.drew
  clear hBx hBy hG
  go_region_held3 (fun w' => w'.cell? ⟨w.heap.size, 0, none⟩ = some (.string x.1) ∧ w'.cell? ⟨w.heap.size, 1, none⟩ = some (.int .i64 x.2.1) ∧ w'.cell? ⟨w.heap.size + 1, 0, none⟩ = some (.string y.1) ∧ w'.cell? ⟨w.heap.size + 1, 1, none⟩ = some (.int .i64 y.2.1)) (first | exact ⟨c1, c2, c3, c4⟩ | go_keep) (first | (go_at_call 94; refine (compare_c _ _ _).mono ?_; rintro e w' ⟨rfl, rfl⟩) | (go_at_call 95; refine (cmpInt_c _ _ _).mono ?_; rintro e w' ⟨rfl, rfl⟩) | (go_at_call 93; refine (or2_c _ _ _ _ ((Bk.new w3 _ _).quiet ((G.refl _ none).drew))).mono ?_; rintro e w' ⟨rfl, rfl⟩))
  go_wp2_with fail
  go_ret
  exact ⟨ret_int HF.out, hGd.alloc _⟩
def spanB (a z : Int) : Bool := decide (0 ≤ a) && (decide (a < z) && decide (z ≤ 4001))
def priceB (h d e v : Int) : Bool := inB h (-1) 1000000 && (inB d (-1) 1000000 && (inB e (-1) 1000000 && inB v (-1) 1000000))
def chE (x : Ra) : Int := if keyB x.1 = false then 5 else if spanB x.2.1 x.2.2.1 = false then 1 else if priceB x.2.2.2.1 x.2.2.2.2.1 x.2.2.2.2.2.1 x.2.2.2.2.2.2 = false then 1 else 0
set_option maxRecDepth 100000 in
set_option maxHeartbeats 4000000 in
theorem checkRate_c (x : Ra) (w : World) (hs : Small x.1) :
    Calls Tryd.prog 63 #[.agg (raC x)] w fun e w' => e = .returned (.int .i64 (chE x)) ∧ G w w' none := by
  obtain ⟨k, a, z, h, d, e4, v⟩ := x
  unfold Small at hs
  dsimp only at hs
  have HB : Hid (chE (k, a, z, h, d, e4, v) = if keyB k = false then 5 else if spanB a z = false then 1 else if priceB h d e4 v = false then 1 else 0) := Lib.hid rfl
  have hG : G w (w.alloc (.cells (raC (k, a, z, h, d, e4, v)) 37)) none := (G.refl w none).alloc _
  have hB := Bk.new w 37 (raC (k, a, z, h, d, e4, v))
  generalize chE (k, a, z, h, d, e4, v) = E at HB ⊢
  rw [show raC (k, a, z, h, d, e4, v) = #[.string k, .int .i64 a, .int .i64 z, .int .i64 h, .int .i64 d, .int .i64 e4, .int .i64 v] from rfl] at *
  clear hB
  have i0 : ∀ w : World, (Instr.index 135 (.agg #[.int .i64 h, .int .i64 d, .int .i64 e4, .int .i64 v]) (.int .i64 0)).run Tryd.prog w = .ok (.int .i64 h) w := fun _ => by kernel_rfl
  have i1 : ∀ w : World, (Instr.index 135 (.agg #[.int .i64 h, .int .i64 d, .int .i64 e4, .int .i64 v]) (.int .i64 1)).run Tryd.prog w = .ok (.int .i64 d) w := fun _ => by kernel_rfl
  have i2 : ∀ w : World, (Instr.index 135 (.agg #[.int .i64 h, .int .i64 d, .int .i64 e4, .int .i64 v]) (.int .i64 2)).run Tryd.prog w = .ok (.int .i64 e4) w := fun _ => by kernel_rfl
  have i3 : ∀ w : World, (Instr.index 135 (.agg #[.int .i64 h, .int .i64 d, .int .i64 e4, .int .i64 v]) (.int .i64 3)).run Tryd.prog w = .ok (.int .i64 v) w := fun _ => by kernel_rfl
  go_enter Tryd.func63, Tryd.ntmps63
  go_wp2_with fail
  refine (isKey_c k _ hs).mono ?_; rintro e w' ⟨rfl, rfl⟩
  cases hk : keyB k with
  | false =>
    have HF : Hid (E = 5) := Lib.hid (by rw [HB.out, if_pos hk])
    clear hk
    go_wp2_with fail
    go_ret
    exact ⟨by rw [HF.out]; rfl, hG⟩
  | true =>
    have HS : Hid (E = if spanB a z = false then 1 else if priceB h d e4 v = false then 1 else 0) := Lib.hid (by rw [HB.out, if_neg (by simp [hk])])
    clear hk HB
    rcases (show a < 0 ∨ (0 ≤ a ∧ z ≤ a) ∨ (0 ≤ a ∧ a < z ∧ 4001 < z) ∨ (0 ≤ a ∧ a < z ∧ z ≤ 4001) by omega) with h1 | ⟨h1, h2⟩ | ⟨h1, h2, h3⟩ | ⟨h1, h2, h3⟩
    · have HF : Hid (E = 1) := Lib.hid (by rw [HS.out, if_pos (by rw [spanB, decide_eq_false (by omega)]; rfl)])
      go_wp2_with fail
      go_ret
      exact ⟨by rw [HF.out]; rfl, hG⟩
    · have HF : Hid (E = 1) := Lib.hid (by rw [HS.out, if_pos (by rw [spanB, decide_eq_false (show ¬ a < z by omega)]; simp)])
      go_wp2_with fail
      go_ret
      exact ⟨by rw [HF.out]; rfl, hG⟩
    · have HF : Hid (E = 1) := Lib.hid (by rw [HS.out, if_pos (by rw [spanB, decide_eq_false (show ¬ z ≤ 4001 by omega)]; simp)])
      go_wp2_with fail
      go_ret
      exact ⟨by rw [HF.out]; rfl, hG⟩
    · have HP : Hid (E = if priceB h d e4 v = false then 1 else 0) := Lib.hid (by rw [HS.out, if_neg (by simp [spanB, h1, h2, h3])])
      clear HS
      cases p1 : inB h (-1) 1000000 with
      | false =>
        have HF : Hid (E = 1) := Lib.hid (by rw [HP.out, if_pos (by simp [priceB, p1])])
        clear HP
        go_wp2_with fail
        refine wp_loop_rounds 5 ?_
        rw [rounds_succ]
        go_wp2_with fail
        refine (within_c _ _ _ _).mono ?_; rintro e w' ⟨rfl, rfl⟩
        rw [p1]
        go_wp2_with fail
        go_ret
        exact ⟨by rw [HF.out]; rfl, hG⟩
      | true =>
        cases p2 : inB d (-1) 1000000 with
        | false =>
          have HF : Hid (E = 1) := Lib.hid (by rw [HP.out, if_pos (by simp [priceB, p2])])
          clear HP
          go_wp2_with fail
          refine wp_loop_rounds 5 ?_
          rw [rounds_succ]
          go_wp2_with fail
          refine (within_c _ _ _ _).mono ?_; rintro e w' ⟨rfl, rfl⟩
          rw [p1]
          go_wp2_with fail
          rw [rounds_succ]
          go_wp2_with fail
          refine (within_c _ _ _ _).mono ?_; rintro e w' ⟨rfl, rfl⟩
          rw [p2]
          go_wp2_with fail
          go_ret
          exact ⟨by rw [HF.out]; rfl, hG⟩
        | true =>
          cases p3 : inB e4 (-1) 1000000 with
          | false =>
            have HF : Hid (E = 1) := Lib.hid (by rw [HP.out, if_pos (by simp [priceB, p3])])
            clear HP
            go_wp2_with fail
            refine wp_loop_rounds 5 ?_
            rw [rounds_succ]
            go_wp2_with fail
            refine (within_c _ _ _ _).mono ?_; rintro e w' ⟨rfl, rfl⟩
            rw [p1]
            go_wp2_with fail
            rw [rounds_succ]
            go_wp2_with fail
            refine (within_c _ _ _ _).mono ?_; rintro e w' ⟨rfl, rfl⟩
            rw [p2]
            go_wp2_with fail
            rw [rounds_succ]
            go_wp2_with fail
            refine (within_c _ _ _ _).mono ?_; rintro e w' ⟨rfl, rfl⟩
            rw [p3]
            go_wp2_with fail
            go_ret
            exact ⟨by rw [HF.out]; rfl, hG⟩
          | true =>
            have HF : Hid (E = if inB v (-1) 1000000 = false then 1 else 0) := Lib.hid (by rw [HP.out]; simp [priceB, p1, p2, p3])
            clear HP
            go_wp2_with fail
            refine wp_loop_rounds 5 ?_
            rw [rounds_succ]
            go_wp2_with fail
            refine (within_c _ _ _ _).mono ?_; rintro e w' ⟨rfl, rfl⟩
            rw [p1]
            go_wp2_with fail
            rw [rounds_succ]
            go_wp2_with fail
            refine (within_c _ _ _ _).mono ?_; rintro e w' ⟨rfl, rfl⟩
            rw [p2]
            go_wp2_with fail
            rw [rounds_succ]
            go_wp2_with fail
            refine (within_c _ _ _ _).mono ?_; rintro e w' ⟨rfl, rfl⟩
            rw [p3]
            go_wp2_with fail
            rw [rounds_succ]
            go_wp2_with fail
            refine (within_c _ _ _ _).mono ?_; rintro e w' ⟨rfl, rfl⟩
            cases p4 : inB v (-1) 1000000 with
            | false =>
              rw [p4] at HF
              go_wp2_with fail
              go_ret
              exact ⟨by rw [HF.out]; rfl, hG⟩
            | true =>
              rw [p4] at HF
              go_wp2_with fail
              rw [rounds_succ]
              go_wp2_with fail
              go_ret
              exact ⟨by rw [HF.out]; rfl, hG⟩
end Go.Proofs.YtgofeigebldkiaaDoor
