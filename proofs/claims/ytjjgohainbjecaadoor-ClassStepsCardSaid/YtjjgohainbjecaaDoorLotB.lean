/- The law's own 'lots': checkVehicle, follow, statesAt, StateOf, lots. -/
import Derived.Test.YtjjgohainbjecaaDoorLotA
import Derived.Laws.ResultCell
namespace Go.Proofs.YtjjgohainbjecaaDoor
open Go.RowKit

/-- Two results, the first a struct that lies in memory. -/
theorem results_cell_row2 {P : Program} {fn : Func} {p u : Tmp} {ty : TypeId} (h : fn.results = #[.cell p ty, .tmp u]) (tmps : Array Value) (w : World) (g : Nat) (t : TypeId) (cs : Array Value) (fr : Nat × Nat) (d : TypeDesc)
    (hp : tmps.getD p undef = .pointer (some ⟨g, 0, none⟩)) (hg : w.heap[g]? = some (.cells cs t fr))
    (hu : P.underlying ty = some d) (hd : (match d with | .struct _ | .array _ _ => true | _ => false) = true) (hi : (P.info? ty).map (·.size) = some cs.size) :
    (results fn tmps).run P w = .ok (.tuple #[.agg cs, tmps.getD u undef]) w := by
  have hp' : tmps[p]?.getD undef = .pointer (some ⟨g, 0, none⟩) := by simpa using hp
  simp [results, h, hp', asAddr, run_loadVar_row w g t ty cs fr d hg hu hd hi]

set_option maxRecDepth 100000 in
set_option maxHeartbeats 2000000 in
theorem checkVehicle1_c (v0 v1 v2 : Value) (g : Nat) (w : World) (h : Fl1 w v0 v1 v2) (he : Ev1 w g) : Calls Tryd.prog 35 #[.agg #[v0, v1, v2, .slice none 0 0], .slice (some ⟨g, 0, none⟩) 1 1, .string ⟨#[118]⟩] w fun e w' => e = .returned (.int .i64 0) ∧ G w w' none := by
  have hF0 := (Bk.new w 73 #[v0, v1, v2, .slice none 0 0])
  have hG0 : G w (w.alloc (.cells #[v0, v1, v2, .slice none 0 0] 73)) none := (G.refl _ _).alloc _
  go_enter Tryd.func35, Tryd.ntmps35
  go_wp2_with (refine wpList_load_row rfl 73 _ rfl w.heap.size rfl 73 #[v0, v1, v2, .slice none 0 0] (0, 0) _ hF0 Tryd.underlying73 rfl (fl_info _ _ _ _) ?_)
  refine (check1_c v0 v1 v2 g _ (h.quiet hG0) (Bk.quiet he hG0)).mono ?_; rintro e w1 ⟨rfl, hG1⟩
  have hF1 := hF0.quiet hG1
  have hG01 := hG0.trans hG1
  clear hG0 hG1 hF0
  go_wp2_with (refine wpList_load_row rfl 73 _ rfl w.heap.size rfl 73 #[v0, v1, v2, .slice none 0 0] (0, 0) _ hF1 Tryd.underlying73 rfl (fl_info _ _ _ _) ?_)
  refine (hasV1_c v0 v1 v2 _ _ (h.quiet hG01)).mono ?_; rintro e w2 ⟨rfl, hG2⟩
  go_wp2_with fail
  go_ret
  exact ⟨rfl, hG01.trans hG2⟩

/-- What the table of the changes says at the first kind. -/
def Gl (w : World) : Prop := w.cell? ⟨0, 2, none⟩ = some (.int .i64 0) ∧ w.cell? ⟨0, 3, none⟩ = some (.int .i64 1) ∧ 0 < w.heap.size
theorem Gl.grown {w w' : World} {s : Option Nat} (h : Gl w) (hg : G w w' s) (hs : s ≠ some 0) : Gl w' := by
  obtain ⟨h1, h2, h3⟩ := h
  have e := hg.block _ h3 (by exact fun q => hs q.symm)
  exact ⟨(World.cell?_of_block (w := w) e).trans h1, (World.cell?_of_block (w := w) e).trans h2, Nat.lt_of_lt_of_le h3 hg.size⟩
theorem Gl.quiet {w w' : World} (h : Gl w) (hg : G w w' none) : Gl w' := h.grown hg (by simp)
theorem ss_info (a b : Int) (s : ByteArray) : (Tryd.prog.info? 75).map (·.size) = some (#[.int .i64 a, .string s, .int .i64 b] : Array Value).size := (by kernel_rfl : (Tryd.prog.info? 75).map (·.size) = some 3)
theorem ss_one (a b : Int) (s : ByteArray) : (#[.int .i64 a, .string s, .int .i64 b] : Array Value).all (·.oneCell') = true := by simp [Value.oneCell']
set_option maxRecDepth 100000 in
set_option maxHeartbeats 2000000 in
theorem follow1_c (w : World) (h : Gl w) : Calls Tryd.prog 44 #[.agg #[.int .i64 0, .string ⟨#[]⟩, .int .i64 0], .agg #[.int .i64 5, .string ⟨#[118]⟩, .string ⟨#[115]⟩, .int .i64 1, .string ⟨#[]⟩]] w fun e w' => e = .returned (.tuple #[.agg #[.int .i64 1, .string ⟨#[115]⟩, .int .i64 5], .bool true]) ∧ G w w' none := by
  obtain ⟨h1, h2, h3⟩ := h
  go_enter Tryd.func44, Tryd.ntmps44
  go_wp2_with fail
  refine bodyPost_ret (v := .tuple #[.agg #[.int .i64 1, .string ⟨#[115]⟩, .int .i64 5], .bool true]) (by simp [results, Tryd.results44, go_sem]) rfl ⟨rfl, ?_⟩
  repeat (first | exact G.refl _ _ | apply G.alloc)

abbrev SMap (w : World) (b c : Nat) (f : Fn) : Prop := OwnM Tryd.prog 9 w b c f
def st1V : Value := .agg #[.int .i64 1, .string ⟨#[115]⟩, .int .i64 5]
def StPost (w : World) (e : Ending) (w' : World) : Prop := ∃ b c : Nat, e = .returned (.map (some b)) ∧ SMap w' b c (fput eF ⟨#[118]⟩ st1V) ∧ G w w' none
theorem zt_run (w : World) : (zeroValue 75).run Tryd.prog w = .ok (.agg #[.int .i64 0, .string ⟨#[]⟩, .int .i64 0]) w := by kernel_rfl
theorem eF_get (s : ByteArray) (z : Value) : (eF s).getD z = z := rfl
theorem zltm : 0 < maxLen := by show 0 < 2 ^ 63 - 1; omega
theorem fput_get (s : ByteArray) (v z : Value) : (fput eF s v s).getD z = v := by simp [fput]
theorem sz118 : (⟨#[118]⟩ : ByteArray).size ≤ maxLen := by show (1 : Nat) ≤ 2 ^ 63 - 1; omega
set_option maxRecDepth 100000 in
set_option maxHeartbeats 2000000 in
theorem statesAt1_c (g : Nat) (w : World) (h : Gl w) (he : Ev1 w g) : Calls Tryd.prog 37 #[.slice (some ⟨g, 0, none⟩) 1 1, .int .i64 7] w (StPost w) := by
  have hmm := @run_makeMap Tryd.prog
  have hM0 : SMap (w.alloc (.map #[] 0)) w.heap.size 0 eF := OwnM.made w Tryd.prog 9 rfl
  have hG0 : G w (w.alloc (.map #[] 0)) none := (G.refl _ _).alloc _
  have HA := Lib.hid (Bk.at_ (Bk.alloc he (.map #[] 0)))
  have hgl := Bk.lt he
  have hM1 := hM0.alloc (.cells #[.int .i64 5, .string ⟨#[118]⟩, .string ⟨#[115]⟩, .int .i64 1, .string ⟨#[]⟩] 79)
  have hE1 := Bk.newAt (w := w.alloc (.map #[] 0)) (b := w.heap.size + 1) (by simp) 79 #[.int .i64 5, .string ⟨#[118]⟩, .string ⟨#[115]⟩, .int .i64 1, .string ⟨#[]⟩]
  have hG1 := hG0.alloc (.cells #[.int .i64 5, .string ⟨#[118]⟩, .string ⟨#[115]⟩, .int .i64 1, .string ⟨#[]⟩] 79)
  clear hM0 hG0
  go_enter Tryd.func37, Tryd.ntmps37
  go_wp2_with fail
  refine wp_loop_rounds 2 ?_
  rw [rounds_succ]
  go_wp2_with (first | (refine wpList_load_at rfl 79 _ rfl ⟨g, 0, none⟩ rfl #[.int .i64 5, .string ⟨#[118]⟩, .string ⟨#[115]⟩, .int .i64 1, .string ⟨#[]⟩] _ HA.out Tryd.underlying79 rfl ev_info ?_) | (at_lookup; refine wpM_look rfl _ _ 86 rfl 9 75 Tryd.underlying9 Tryd.underlying86 _ (zt_run _) w.heap.size _ _ rfl hM1 ⟨#[118]⟩ rfl sz118 ?_; rw [eF_get]))
  refine (follow1_c _ (h.quiet hG1)).mono ?_; rintro e w1 ⟨rfl, hG2⟩
  have hM2 := (hM1.quiet hG2).alloc (.cells #[.int .i64 1, .string ⟨#[115]⟩, .int .i64 5] 75)
  have hE2 := (hE1.quiet hG2).alloc (.cells #[.int .i64 1, .string ⟨#[115]⟩, .int .i64 5] 75)
  have hG3 := (hG1.trans hG2).alloc (.cells #[.int .i64 1, .string ⟨#[115]⟩, .int .i64 5] 75)
  have c1 : w1.cell? ⟨w.heap.size + 1, 1, none⟩ = some (.string ⟨#[118]⟩) := (hE1.quiet hG2).cell 1
  have hz := (hE1.quiet hG2).lt
  have hBn := Bk.new w1 75 #[.int .i64 1, .string ⟨#[115]⟩, .int .i64 5]
  clear hM1 hE1 hG1 hG2
  go_wp2_with (first | (refine wpList_load_row rfl 75 _ rfl w1.heap.size rfl 75 #[.int .i64 1, .string ⟨#[115]⟩, .int .i64 5] (0, 0) _ hBn Tryd.underlying75 rfl (ss_info _ _ _) ?_) | (at_mapUpdate; refine wpM_store rfl _ _ _ 86 rfl 9 75 Tryd.underlying9 Tryd.underlying86 w.heap.size _ _ rfl hM2 zltm ⟨#[118]⟩ rfl sz118 st1V rfl ?_; intro w2 hM3 hG4))
  rw [rounds_succ]
  go_wp2_with fail
  go_ret
  exact ⟨_, _, rfl, hM3, hG3.other hG4 (fun j e => .inl (by obtain rfl := Option.some.inj e; exact Nat.le_refl _))⟩

set_option maxRecDepth 100000 in
set_option maxHeartbeats 2000000 in
theorem stateOf1_c (v0 v1 v2 : Value) (g : Nat) (w : World) (h : Fl1 w v0 v1 v2) (he : Ev1 w g) (hg : Gl w) :
    Calls Tryd.prog 30 #[.agg #[v0, v1, v2, .slice none 0 0], .slice (some ⟨g, 0, none⟩) 1 1, .string ⟨#[118]⟩, .int .i64 7] w fun e w' => e = .returned (.tuple #[.agg #[.int .i64 1, .string ⟨#[115]⟩, .int .i64 5], .int .i64 0]) ∧ G w w' none := by
  have hF0 := (Bk.new w 73 #[v0, v1, v2, .slice none 0 0]).alloc (.cells #[.int .i64 0, .string ⟨#[]⟩, .int .i64 0] 75)
  have hR0 := Bk.newAt (w := w.alloc (.cells #[v0, v1, v2, .slice none 0 0] 73)) (b := w.heap.size + 1) (by simp) 75 #[.int .i64 0, .string ⟨#[]⟩, .int .i64 0]
  have hG0 : G w ((w.alloc (.cells #[v0, v1, v2, .slice none 0 0] 73)).alloc (.cells #[.int .i64 0, .string ⟨#[]⟩, .int .i64 0] 75)) none := ((G.refl _ _).alloc _).alloc _
  have hmo : Hid (momE 7 = 0) := Lib.hid (by decide)
  go_enter Tryd.func30, Tryd.ntmps30
  go_wp2_with (refine wpList_load_row rfl 73 _ rfl w.heap.size rfl 73 #[v0, v1, v2, .slice none 0 0] (0, 0) _ hF0 Tryd.underlying73 rfl (fl_info _ _ _ _) ?_)
  refine (checkVehicle1_c v0 v1 v2 g _ (h.quiet hG0) (Bk.quiet he hG0)).mono ?_; rintro e w1 ⟨rfl, hG1⟩
  have hR1 := hR0.quiet hG1
  have hG01 := hG0.trans hG1
  clear hG0 hG1 hR0 hF0
  go_wp2_with fail
  refine (checkMoment_c _ _).mono ?_; rintro e w' ⟨rfl, rfl⟩
  rw [hmo.out]
  go_wp2_with fail
  refine (statesAt1_c g _ (hg.quiet hG01) (Bk.quiet he hG01)).mono ?_; rintro e w2 ⟨b, c, rfl, hM, hG2⟩
  have hR2 := hR1.quiet hG2
  have hG02 := hG01.trans hG2
  clear hG01 hG2 hR1
  go_wp2_with (first | (at_lookup; refine wpM_look rfl _ _ 86 rfl 9 75 Tryd.underlying9 Tryd.underlying86 _ (zt_run _) b c _ rfl hM ⟨#[118]⟩ rfl sz118 ?_; rw [fput_get]; unfold st1V) | (refine wpList_store_row rfl 75 _ _ rfl (w.heap.size + 1) #[.int .i64 1, .string ⟨#[115]⟩, .int .i64 5] rfl rfl 75 _ hR2 (ss_info _ _ _) rfl (ss_one _ _ _) ?_))
  refine bodyPost_ret (results_cell_row2 rfl _ _ (w.heap.size + 1) 75 #[.int .i64 1, .string ⟨#[115]⟩, .int .i64 5] (0, 0) _ rfl (hR2.setRow _) Tryd.underlying75 rfl (ss_info _ _ _)) rfl ?_
  exact ⟨rfl, hG02.setRow (.inl (by omega)) _⟩
end Go.Proofs.YtjjgohainbjecaaDoor
