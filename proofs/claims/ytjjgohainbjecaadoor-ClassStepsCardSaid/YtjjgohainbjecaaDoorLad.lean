/- lot.ladder, Above, Steps. -/
import Derived.Test.YtjjgohainbjecaaDoorPig
import Derived.Test.YtjjgohainbjecaaDoorStr
namespace Go.Proofs.YtjjgohainbjecaaDoor
open Go.RowKit

/-- A row of strings that the call owns. -/
abbrev OwnSs (w : World) (base : Nat) (v : Value) (l : List ByteArray) : Prop := w.ownsRow base 9 1 v l.length (l.map Value.string)
theorem ss_row : (Tryd.prog.info? 9).map (fun i => (i.zero, i.size, i.bytes)) = some (some (.string ⟨#[]⟩), 1, 16) := by kernel_rfl
theorem OwnSs.rd {w : World} {base : Nat} {v : Value} {l : List ByteArray} (h : OwnSs w base v l) : RdS w v l := Rd.of_owns h
/-- A string more behind a row of the call's own. -/
theorem wpList_append_ss {w : World} {ops : Array Oper} {rest : List Oper} {o : Oper} {a : Act} {Q : Exit → Act → World → Prop} (hgd : o.guard = none) (s x : Operand)
    (ho : o.op = .call { callee := .builtin .append, args := #[s, x], argTypes := #[29, 29] }) (base : Nat) (v : Value) (l : List ByteArray) (hs : a.eval s = v) (hown : OwnSs w base v l)
    (g : Nat) (r : ByteArray) (hx : a.eval x = .slice (some ⟨g, 0, none⟩) 1 1) (hb : Bk w g 9 #[.string r]) (hl : l.length ≤ 1000) (hbase : base ≤ w.heap.size)
    (hK : ∀ v' w', OwnSs w' base v' (l ++ [r]) → w.grownBy w' v.ownBlock → wpList Tryd.prog ops Q rest (a.put o.dst v') w') : wpList Tryd.prog ops Q (o :: rest) a w := by
  obtain ⟨i0, hi, hz0, hz1, hz2⟩ := info_parts ss_row
  refine wpList_append_own w hgd s x 29 ho base 9 i0 _ 1 16 Tryd.underlying29 hi hz0 hz1 hz2 rfl (by decide) v l.length (l.map Value.string) hs hown ⟨g, 0, none⟩ 1 1 [.string r] hx rfl hb.at_ (by simp [Value.oneCell']) (by unfold maxLen; omega) (by omega) hbase ?_
  intro v' w' h1 h2 _
  refine hK v' w' ?_ h2
  unfold OwnSs
  rw [List.length_append, List.map_append]
  exact h1
theorem OwnSs.alloc {w : World} {base : Nat} {v : Value} {l : List ByteArray} (h : OwnSs w base v l) (o : Obj) : OwnSs (w.alloc o) base v l := World.ownsRow.alloc h o
theorem OwnSs.quiet {w w' : World} {base : Nat} {v : Value} {l : List ByteArray} (h : OwnSs w base v l) (hg : G w w' none) : OwnSs w' base v l := World.ownsRow.kept h (G.but hg (some w.heap.size)) (.inr fun e => by have := (World.ownsRow.lt h _ e).2; omega)
def LadRel (w : World) (u : Up) (b c N : Nat) (key : ByteArray) (kx : Nat) (s1 s5 : Value) (wr : World) : Prop :=
  ∃ (n : Nat) (s : ByteArray) (acc : List ByteArray), n ≤ kx ∧ s1 = .string s ∧ OwnSs wr w.heap.size s5 acc ∧ Small s ∧ it u n s = eS ∧ ladK u N key = acc ++ ladK u n s ∧ acc.length + n ≤ N ∧ MapOf wr b c (sv u) ∧ G w wr none
set_option maxRecDepth 100000 in
set_option maxHeartbeats 2000000 in
theorem ladder_c (b c N : Nat) (u : Up) (key : ByteArray) (w : World) (hM : MapOf w b c (sv u)) (hu : UpOk u) (hk : Small key) (hN : N ≤ 1000) (hend : it u N key = eS) :
    Calls Tryd.prog 22 #[.map (some b), .string key] w fun e w' => ∃ v, e = .returned v ∧ OwnSs w' w.heap.size v (ladK u N key) ∧ G w w' none := by
  have hbl := hM.lt
  go_enter Tryd.func22, Tryd.ntmps22
  go_wp2_with fail
  go_loopg [1, 5] N (LadRel w u b c N key)
  case atStart => exact ⟨N, key, [], Nat.le_refl _, rfl, World.ownsRow_nil _ _ _ _, hk, hend, rfl, by simp, hM, G.refl _ _⟩
  case round =>
    clear hM hk hend
    obtain ⟨n, s, acc, hn, rfl, hown, hs, hend, hlad, hlen, hM, hG⟩ := hrel
    cases he : s.toList.isEmpty with
    | true =>
      have HF : Hid (ladK u N key = acc) := Lib.hid (by rw [hlad, isE_iff.1 he, ladK_eS, List.append_nil])
      clear hlad hend
      go_wp2_with fail
      go_ret
      exact ⟨_, rfl, by rw [HF.out]; exact hown, hG⟩
    | false =>
      cases n with
      | zero =>
        exfalso
        rw [isE_iff.2 (show s = eS from hend)] at he
        cases he
      | succ n =>
        have HF : Hid (ladK u N key = (acc ++ [s]) ++ ladK u n ((u s).getD eS)) := Lib.hid (by
          rw [hlad, List.append_assoc]
          congr 1
          show (if s.toList.isEmpty = true then [] else s :: ladK u n ((u s).getD eS)) = _
          rw [if_neg (by simp [he])]
          rfl)
        have HE : Hid (it u n ((u s).getD eS) = eS) := Lib.hid hend
        have hg1 := hu.get s
        have hob := fun r e => (World.ownsRow.lt hown r e).1
        have hsz := hG.size
        have hMb : ∀ r, u5.ownBlock = some r → b ≠ r := fun r e => by have := hob r e; omega
        clear hlad hend
        go_wp2_with (first | (at_builtin; refine wpList_append_ss rfl _ _ rfl w.heap.size u5 acc rfl (hown.alloc _) wr.heap.size s rfl (Bk.newAt rfl _ _) (by omega) (by simp; omega) ?_; intro v' w' hown' hgrow; have hM' := (hM.alloc (.cells #[.string s] 9)).grown hgrow (fun e => hMb b e.symm rfl)) | (at_lookup; refine wpS_look rfl _ _ rfl b c u rfl hM' s rfl hs ?_))
        go_roundg n
        case measure => omega
        case rel => exact ⟨n, _, acc ++ [s], Nat.le_refl _, rfl, hown', hg1, HE.out, HF.out, by simp; omega, hM', (hG.alloc _).other hgrow fun j e => .inl (hob j e)⟩
end Go.Proofs.YtjjgohainbjecaaDoor
