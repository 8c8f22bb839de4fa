/- Generator: Stations. -/
import Derived.Test.YtjdkdnnbckogjaaDoorGenS
namespace Go.Proofs.YtjdkdnnbckogjaaDoor
open Go.RowKit

/-- A station: its key, its hours. -/
abbrev Sta := ByteArray × (Nat → Int)
def stL (l : List Sta) : List Value := l.flatMap fun p => (stC p.1 p.2).toList
theorem stL_len (l : List Sta) : (stL l).length = l.length * 15 := by
  induction l with
  | nil => rfl
  | cons p l ih => rw [show stL (p :: l) = (stC p.1 p.2).toList ++ stL l from rfl, List.length_append, ih, List.length_cons, show (stC p.1 p.2).toList.length = 15 from rfl]; omega
theorem stL_snoc (l : List Sta) (p : Sta) : stL (l ++ [p]) = stL l ++ (stC p.1 p.2).toList := by simp [stL]
def StsKeys : List ByteArray := [⟨#[115, 49]⟩, ⟨#[115, 50]⟩, ⟨#[115, 51]⟩]
/-- A row of stations that the call owns. -/
def OwnSts (w : World) (base : Nat) (v : Value) (l : List Sta) : Prop := w.ownsRow base 30 15 v l.length (stL l)
def StationsPost (s K : Nat) (w : World) (e : Ending) (w' : World) : Prop :=
  ∃ (v : Value) (l : List Sta), e = .returned v ∧ l.length ≤ 3 ∧ OwnSts w' (w.heap.size + 1) v l ∧ (∀ p ∈ l, p.1 ∈ StsKeys ∧ HB p.2) ∧ SB w' s (K + 80) ∧ G w w' (some s)
def StsRel (w : World) (s K : Nat) (v i : Value) (wr : World) : Prop :=
  ∃ (k : Nat) (l : List Sta), k ≤ 3 ∧ l.length ≤ k ∧ i = .int .i64 k ∧ OwnSts wr (w.heap.size + 1) v l ∧ (∀ p ∈ l, p.1 ∈ StsKeys ∧ HB p.2) ∧ SB wr s (K + 25 * k) ∧ G w wr (some s) ∧ Bk wr w.heap.size 9 #[.string ⟨#[115, 49]⟩, .string ⟨#[115, 50]⟩, .string ⟨#[115, 51]⟩]
theorem st_row : (Tryd.prog.info? 30).map (fun i => (i.zero, i.size, i.bytes)) = some (some (.agg (stC ⟨#[]⟩ (fun _ => 0))), 15, 128) := by kernel_rfl
theorem stC_one (r : ByteArray) (h : Nat → Int) : ∀ u ∈ (stC r h).toList, u.oneCell' = true := by
  intro u hu
  simp [stC] at hu
  rcases hu with rfl | rfl | rfl | rfl | rfl | rfl | rfl | rfl | rfl | rfl | rfl | rfl | rfl | rfl | rfl <;> rfl
theorem Bk.at_ {w : World} {g : Nat} {T : TypeId} {cs : Array Value} (h : Bk w g T cs) : ∀ j u, cs.toList[j]? = some u → w.cell? ((⟨g, 0, none⟩ : Addr).add j) = some u := by
  intro j u hu
  rw [Addr.add_lit, h.cell]
  simpa using hu
/-- A station more behind a row of the call's own. -/
theorem wpList_append_sts {w : World} {ops : Array Oper} {rest : List Oper} {o : Oper} {a : Act} {Q : Exit → Act → World → Prop} (hgd : o.guard = none) (s x : Operand)
    (ho : o.op = .call { callee := .builtin .append, args := #[s, x], argTypes := #[34, 34] }) (base : Nat) (v : Value) (l : List Sta) (hs : a.eval s = v) (hown : OwnSts w base v l)
    (g : Nat) (r : ByteArray) (h : Nat → Int) (hx : a.eval x = .slice (some ⟨g, 0, none⟩) 1 1) (hb : Bk w g 30 (stC r h)) (hl : l.length ≤ 1000) (hbase : base ≤ w.heap.size)
    (hK : ∀ v' w', OwnSts w' base v' (l ++ [(r, h)]) → w.grownBy w' v.ownBlock → wpList Tryd.prog ops Q rest (a.put o.dst v') w') : wpList Tryd.prog ops Q (o :: rest) a w := by
  obtain ⟨i0, hi, hz0, hz1, hz2⟩ := info_parts st_row
  refine wpList_append_own w hgd s x 34 ho base 30 i0 _ 15 128 Tryd.underlying34 hi hz0 hz1 hz2 rfl (by decide) v l.length (stL l) hs hown ⟨g, 0, none⟩ 1 1 (stC r h).toList hx rfl hb.at_ (stC_one r h) (by unfold maxLen; omega) (by omega) hbase ?_
  intro v' w' h1 h2 _
  refine hK v' w' ?_ h2
  unfold OwnSts
  rw [List.length_append, stL_snoc]
  exact h1
/-- What stands at the head of the loop over a station's days. -/
def DayRel (w : World) (s K g : Nat) (key : ByteArray) (v : Value) (l : List Sta) (i : Value) (wr : World) : Prop :=
  ∃ (k : Nat) (hh : Nat → Int), k ≤ 7 ∧ i = .int .i64 k ∧ HB hh ∧ Bk wr g 30 (stC key hh) ∧ SB wr s (K + 3 * k) ∧ G w wr (some s) ∧ OwnSts wr (w.heap.size + 1) v l ∧ Bk wr w.heap.size 9 #[.string ⟨#[115, 49]⟩, .string ⟨#[115, 50]⟩, .string ⟨#[115, 51]⟩]
theorem OwnSts.kept {w w' : World} {base : Nat} {v : Value} {l : List Sta} {s : Nat} (h : OwnSts w base v l) (hg : G w w' (some s)) (hs : s < base) : OwnSts w' base v l := by
  refine World.ownsRow.kept h hg (.inr fun e => ?_)
  have := (World.ownsRow.lt h s e).1
  omega
theorem OwnSts.alloc {w : World} {base : Nat} {v : Value} {l : List Sta} (h : OwnSts w base v l) (o : Obj) : OwnSts (w.alloc o) base v l := World.ownsRow.alloc h o
theorem OwnSts.setCell {w : World} {base : Nat} {v : Value} {l : List Sta} (h : OwnSts w base v l) {p : Addr} (hp : v.ownBlock ≠ some p.block) (u : Value) : OwnSts (w.setCell p u) base v l :=
  World.ownsRow.kept h (grownBy_setCell_row w p u) (.inr hp)
set_option maxRecDepth 100000 in
set_option maxHeartbeats 4000000 in
theorem stations_c (w : World) (s : Nat) (K : Nat) (hs : SB w s K) (hk : K ≤ 900000000000) :
    Calls Tryd.prog 8 #[.pointer (some ⟨s, 0, none⟩)] w (StationsPost s K w) := by
  have hslt := hs.lt
  go_enter Tryd.func8, Tryd.ntmps8
  go_wp2_with fail
  go_loopw [3, 11] (StsRel w s K) (fun _ i _ => 3 - (intOf i).toNat)
  case atStart =>
    exact ⟨0, [], by omega, by simp, rfl, World.ownsRow_nil _ _ _ _, by simp, hs.alloc _, (G.refl _ _).alloc _, Bk.new _ _ _⟩
  case round =>
    obtain ⟨k, l, hk3, hlk, rfl, hown, hl, hSB, hG, hB⟩ := hrel
    by_cases hk2 : k < 3
    · obtain ⟨key, hkey, hc⟩ : ∃ key : ByteArray, key ∈ StsKeys ∧ wr.cell? ⟨w.heap.size, k, none⟩ = some (.string key) := by
        rw [hB.cell]
        match k, hk2 with
        | 0, _ => exact ⟨_, List.mem_of_getElem? (i := 0) rfl, rfl⟩
        | 1, _ => exact ⟨_, List.mem_of_getElem? (i := 1) rfl, rfl⟩
        | 2, _ => exact ⟨_, List.mem_of_getElem? (i := 2) rfl, rfl⟩
      go_wp2_with fail
      refine (flip_c _ _ _ _ hSB (by omega) (by omega)).mono ?_; rintro e w3 ⟨b, rfl, hSB3, hG3⟩
      have hB3 := hB.grown hG3 (by simp; omega)
      have hown3 := hown.kept hG3 (by omega)
      have hG03 := hG.trans hG3
      clear hB hG hG3 hSB hown hc
      cases b with
      | true =>
        go_wp2_with fail
        go_roundw
        case rel => exact ⟨k + 1, l, by omega, by omega, by go_num, hown3, hl, hSB3.le (by omega), hG03, hB3⟩
        case measure => simp [intOf]; omega
      | false =>
        have hz := hB3.lt
        have hl3 : l.length ≤ 3 := by omega
        have hv := fun g e => (World.ownsRow.lt hown3 g e).2
        go_wp2_with fail
        go_loopw [19] (DayRel w s (K + 25 * k + 1) w3.heap.size key u3 l) (fun i _ => 7 - (intOf i).toNat)
        case atStart =>
          exact ⟨0, fun _ => 0, by omega, rfl, HB.zero, Bk.new w3 _ _, hSB3.alloc _, hG03.alloc _, hown3.alloc _, hB3.alloc _⟩
        case round =>
          obtain ⟨d, hh, hd7, rfl, hHB, hBk, hSB4, hG4, hown4, hB4⟩ := hrel
          by_cases hd6 : d < 7
          · have hgs : s < w3.heap.size := by omega
            go_wp2_with fail
            refine (pick_c _ _ _ [_, _, _, _, _] _ _ _ (hSB4.alloc _) (by omega) (by decide) (by decide) (Rd.newAt _ rfl rfl (by decide)) (hSB4.newAt _ _ _ (Nat.le_refl _))).mono ?_
            rintro e w5 ⟨x, rfl, hx, hSB5, hG5⟩
            have hx0 : 0 ≤ x ∧ x ≤ 1440 := by simp only [List.mem_cons, List.mem_nil_iff, or_false] at hx; omega
            obtain ⟨x0, x1⟩ := hx0
            have hBk5 := (hBk.alloc (.cells _ 3)).grown hG5 (by simp; omega)
            have hB5 := (hB4.alloc (.cells _ 3)).grown hG5 (by simp; omega)
            have hown5 := (hown4.alloc (.cells _ 3)).kept hG5 (by omega)
            have hG05 := (hG4.alloc _).trans hG5
            clear hBk hB4 hown4 hG4 hG5 hSB4 hx
            go_wp2_with fail
            refine (range_c _ _ _ _ _ hSB5 (by omega) (by omega) (by omega) (by omega)).mono ?_; rintro e w6 ⟨y, rfl, y0, y1, hSB6, hG6⟩
            have y2 : y ≤ 1440 := by omega
            clear y1
            have hBk6 := hBk5.grown hG6 (by simp; omega)
            have hB6 := hB5.grown hG6 (by simp; omega)
            have hown6 := hown5.kept hG6 (by omega)
            have hG06 := hG05.trans hG6
            clear hBk5 hB5 hown5 hG05 hG6 hSB5
            have c1 : w6.cell? ⟨w3.heap.size, 1 + d * 2, none⟩ = some (.int .i64 (hh (d * 2))) := by rw [hBk6.cell]; exact stC_get _ _ _ (by omega)
            have c2 : w6.cell? ⟨w3.heap.size, 1 + d * 2 + 1, none⟩ = some (.int .i64 (hh (d * 2 + 1))) := by rw [hBk6.cell]; exact stC_get _ hh (d * 2 + 1) (by omega)
            have f1 := hBk6.free (1 + d * 2)
            have f2 := hBk6.free (1 + d * 2 + 1)
            go_wp2_with fail
            have hBk7 : Bk ((w6.setCell ⟨w3.heap.size, 1 + d * 2, none⟩ (.int .i64 x)).setCell ⟨w3.heap.size, 1 + d * 2 + 1, none⟩ (.int .i64 y)) w3.heap.size 30 (stC key (upd (upd hh (d * 2) x) (d * 2 + 1) y)) := by
              rw [← stC_set _ _ _ (by omega), ← stC_set _ _ _ (by omega)]
              exact (hBk6.set _ _).set _ _
            have hHB7 : HB (upd (upd hh (d * 2) x) (d * 2 + 1) y) := (hHB.upd _ (by omega) (by omega)).upd _ (by omega) (by omega)
            have hB7 := (hB6.far (p := ⟨w3.heap.size, 1 + d * 2, none⟩) (by show w.heap.size ≠ w3.heap.size; omega) (.int .i64 x)).far (p := ⟨w3.heap.size, 1 + d * 2 + 1, none⟩) (by show w.heap.size ≠ w3.heap.size; omega) (.int .i64 y)
            have hvg : u3.ownBlock ≠ some w3.heap.size := fun e => by have := hv _ e; omega
            have hown7 := (hown6.setCell (p := ⟨w3.heap.size, 1 + d * 2, none⟩) hvg (.int .i64 x)).setCell (p := ⟨w3.heap.size, 1 + d * 2 + 1, none⟩) hvg (.int .i64 y)
            have hG07 := (hG06.setCell (p := ⟨w3.heap.size, 1 + d * 2, none⟩) (.inl (by show w.heap.size ≤ w3.heap.size; omega)) (.int .i64 x)).setCell (p := ⟨w3.heap.size, 1 + d * 2 + 1, none⟩) (.inl (by show w.heap.size ≤ w3.heap.size; omega)) (.int .i64 y)
            have hSB7 := (hSB6.setCell (p := ⟨w3.heap.size, 1 + d * 2, none⟩) hgs (.int .i64 x)).setCell (p := ⟨w3.heap.size, 1 + d * 2 + 1, none⟩) hgs (.int .i64 y)
            clear c1 c2 f1 f2 hBk6 hHB hB6 hown6 hG06 hSB6
            refine (flip_c _ _ _ _ hSB7 (by omega) (by omega)).mono ?_; rintro e w8 ⟨b, rfl, hSB8, hG8⟩
            have hBk8 := hBk7.grown hG8 (by simp; omega)
            have hB8 := hB7.grown hG8 (by simp; omega)
            have hown8 := hown7.kept hG8 (by omega)
            have hG08 := hG07.trans hG8
            clear hBk7 hB7 hown7 hG07 hG8 hSB7
            cases b with
            | false =>
              go_wp2_with fail
              go_roundw
              case rel => exact ⟨d + 1, _, by omega, by go_num, hHB7, hBk8, hSB8.le (by omega), hG08, hown8, hB8⟩
              case measure => simp [intOf]; omega
            | true =>
              have c2 : w8.cell? ⟨w3.heap.size, 1 + d * 2 + 1, none⟩ = some (.int .i64 ((upd (upd hh (d * 2) x) (d * 2 + 1) y) (d * 2 + 1))) := by rw [hBk8.cell]; exact stC_get _ _ (d * 2 + 1) (by omega)
              have f2 := hBk8.free (1 + d * 2 + 1)
              go_wp2_with fail
              go_roundw
              case rel =>
                refine ⟨d + 1, upd (upd (upd hh (d * 2) x) (d * 2 + 1) y) (d * 2 + 1) x, by omega, by go_num, hHB7.upd _ (by omega) (by omega), ?_, (hSB8.setCell hgs _).le (by omega), hG08.setCell (.inl (by show w.heap.size ≤ w3.heap.size; omega)) _, hown8.setCell hvg _, hB8.far (by show w.heap.size ≠ w3.heap.size; omega) _⟩
                rw [← stC_set _ (upd (upd hh (d * 2) x) (d * 2 + 1) y) (d * 2 + 1) (by omega)]
                exact hBk8.set _ _
              case measure => simp [intOf]; omega
          · obtain rfl : d = 7 := by omega
            have hz4 := hG4.size
            go_wp2_with (first | (refine wpList_load_row rfl 30 _ rfl w3.heap.size rfl 30 #[.string key, .int .i64 (hh 0), .int .i64 (hh 1), .int .i64 (hh 2), .int .i64 (hh 3), .int .i64 (hh 4), .int .i64 (hh 5), .int .i64 (hh 6), .int .i64 (hh 7), .int .i64 (hh 8), .int .i64 (hh 9), .int .i64 (hh 10), .int .i64 (hh 11), .int .i64 (hh 12), .int .i64 (hh 13)] (0, 0) _ hBk Tryd.underlying30 rfl (st_info _ _) ?_) | (at_builtin; refine wpList_append_sts rfl _ _ rfl (w.heap.size + 1) u3 l rfl (hown4.alloc _) wr.heap.size key hh rfl (Bk.newAt rfl _ _) (by omega) (by simp; omega) ?_; intro v' w' hown' hgrow))
            have hob := fun r e => (World.ownsRow.lt hown4 r e).1
            refine ⟨⟨k + 1, l ++ [(key, hh)], by omega, by simp; omega, by go_num, hown', ?_, ((hSB4.alloc _).own hgrow fun r e => by have := hob r e; omega).le (by omega), (hG4.alloc _).other hgrow fun j e => .inl (by have := hob j e; omega), (hB4.alloc _).grown hgrow fun e => ?_⟩, by simp [intOf]; omega⟩
            · intro p hp
              rcases List.mem_append.1 hp with hp | hp
              · exact hl p hp
              · obtain rfl := List.mem_singleton.1 hp
                exact ⟨hkey, hHB⟩
            · have := hob _ e.symm; omega
    · obtain rfl : k = 3 := by omega
      go_wp2_with fail
      go_ret
      exact ⟨u3, l, rfl, hlk, hown, hl, hSB.le (by omega), hG⟩
end Go.Proofs.YtjdkdnnbckogjaaDoor
