/- Classes: checkClassKeys, upsOf, comesBack, CheckClasses. -/
import Derived.Test.YtjjgohainbjecaaDoorSta
import Derived.Test.YtjjgohainbjecaaDoorMap
namespace Go.Proofs.YtjjgohainbjecaaDoor
open Go.RowKit

/-- A class: its key, the key of the one above. -/
abbrev Cla := ByteArray × ByteArray
def clC (p : Cla) : Array Value := #[.string p.1, .string p.2]
def clL (l : List Cla) : List Value := l.flatMap fun p => (clC p).toList
theorem clL_len (l : List Cla) : (clL l).length = l.length * 2 := by
  induction l with
  | nil => rfl
  | cons p l ih => rw [show clL (p :: l) = (clC p).toList ++ clL l from rfl, List.length_append, ih, List.length_cons, show (clC p).toList.length = 2 from rfl]; omega
theorem clL_at (l : List Cla) (k : Nat) (p : Cla) (hp : l[k]? = some p) : ∀ j v, (clC p).toList[j]? = some v → (clL l)[k * 2 + j]? = some v := by
  induction l generalizing k with
  | nil => simp at hp
  | cons q r ih =>
    intro j v hv
    have hl : (clC q).toList.length = 2 := rfl
    rw [show clL (q :: r) = (clC q).toList ++ clL r from rfl]
    cases k with
    | zero =>
      obtain rfl : q = p := by simpa using hp
      have hj : j < 2 := by rw [← hl]; exact (List.getElem?_eq_some_iff.1 hv).1
      rw [Nat.zero_mul, Nat.zero_add, List.getElem?_append_left (by rw [hl]; exact hj)]
      exact hv
    | succ k =>
      rw [List.getElem?_append_right (by rw [hl]; omega), hl, show (k + 1) * 2 + j - 2 = k * 2 + j by omega]
      exact ih k (by simpa using hp) j v hv
theorem cl_info (p : Cla) : (Tryd.prog.info? 48).map (·.size) = some (clC p).size := (by kernel_rfl : (Tryd.prog.info? 48).map (·.size) = some 2)
def Small (s : ByteArray) : Prop := s.size ≤ 9223372036854775807
def ClsOk (l : List Cla) : Prop := ∀ p ∈ l, Small p.1 ∧ Small p.2
/-- Not the empty string, and no key. -/
def badUp (u : ByteArray) : Bool := !u.toList.isEmpty && !keyB u
def ckErr (before : ByteArray) : List Cla → Int
  | [] => 0
  | p :: r => if keyB p.1 = false then 5 else if leB p.1 before = true then 7 else if badUp p.2 = true then 5 else ckErr p.1 r
def CkRel (w : World) (l : List Cla) (v i : Value) (wr : World) : Prop :=
  ∃ (k : Nat) (b : ByteArray), k ≤ l.length ∧ i = .int .i64 k ∧ v = .string b ∧ ckErr ⟨#[]⟩ l = ckErr b (l.drop k) ∧ G w wr none
set_option maxRecDepth 100000 in
set_option maxHeartbeats 2000000 in
theorem checkClassKeys_c (v : Value) (l : List Cla) (w : World) (hr : Rd w 2 v l.length (clL l)) (hl : ClsOk l) (hn : l.length ≤ 1000) :
    Calls Tryd.prog 28 #[v] w fun e w' => e = .returned (.int .i64 (ckErr ⟨#[]⟩ l)) ∧ G w w' none := by
  obtain ⟨a, cap, rfl, hcap, hm, hlen, hnil, hcell⟩ := hr
  go_enter Tryd.func28, Tryd.ntmps28
  go_wp2_with fail
  go_loopw [3, 8] (CkRel w l) (fun _ i _ => l.length - (intOf i).toNat)
  case atStart => exact ⟨0, ⟨#[]⟩, by omega, rfl, rfl, rfl, G.refl _ _⟩
  case round =>
    obtain ⟨k, b, hkl, rfl, rfl, heq, hG⟩ := hrel
    have HE := Lib.hid heq
    clear heq
    by_cases hk : k < l.length
    · obtain ⟨p, hp⟩ : ∃ p, l[k]? = some p := ⟨_, List.getElem?_eq_getElem hk⟩
      have hdrop : l.drop k = p :: l.drop (k + 1) := by rw [List.drop_eq_getElem_cons hk, ← (List.getElem?_eq_some_iff.1 hp).2]
      have hpl := hl p (List.mem_of_getElem? hp)
      cases a with
      | none => have := (hnil rfl).1; omega
      | some ad =>
        obtain ⟨bb, bo, bs⟩ := ad
        obtain ⟨e1, e2, e3⟩ := hcell _ rfl
        dsimp only at e1 e2 e3
        subst e1
        have hrow : ∀ j v, (clC p).toList[j]? = some v → wr.cell? ((⟨bb, bo + k * 2, none⟩ : Addr).add j) = some v := by
          intro j v hv
          rw [add_at]
          have h1 := e3 (k * 2 + j) v (clL_at l k p hp j v hv)
          rw [← Nat.add_assoc] at h1
          exact ((gcell hG).1 bb _ e2).trans h1
        have HR := Lib.hid hrow
        clear hrow hcell e3 hnil
        have hs1 := hpl.1
        have hs2 := hpl.2
        unfold Small at hs1 hs2
        have HS : Hid (ckErr b (l.drop k) = if keyB p.1 = false then 5 else if leB p.1 b = true then 7 else if badUp p.2 = true then 5 else ckErr p.1 (l.drop (k + 1))) := Lib.hid (by rw [hdrop]; rfl)
        clear hdrop
        go_wp2_with (refine wpList_load_at rfl 48 _ rfl ⟨bb, bo + k * 2, none⟩ rfl #[.string p.1, .string p.2] _ HR.out Tryd.underlying48 rfl (cl_info p) ?_)
        refine (isKey_c _ _ hs1).mono ?_; rintro e w' ⟨rfl, rfl⟩
        cases hkb : keyB p.1 with
        | false =>
          have HF : Hid (ckErr ⟨#[]⟩ l = 5) := Lib.hid (by rw [HE.out, HS.out, if_pos hkb])
          clear hkb
          go_wp2_with fail
          go_ret
          exact ⟨by rw [HF.out]; rfl, hG.alloc _⟩
        | true =>
          cases hle : leB p.1 b with
          | true =>
            have HF : Hid (ckErr ⟨#[]⟩ l = 7) := Lib.hid (by rw [HE.out, HS.out, if_neg (by simp [hkb]), if_pos hle])
            unfold leB at hle
            clear hkb
            go_wp2_with fail
            go_ret
            exact ⟨by rw [HF.out]; rfl, hG.alloc _⟩
          | false =>
            have HL := Lib.hid hle
            have HK := Lib.hid hkb
            unfold leB at hle
            clear hkb
            have hbu : badUp p.2 = (!p.2.toList.isEmpty && !keyB p.2) := rfl
            cases hem : p.2.toList.isEmpty with
            | true =>
              have HF : Hid (ckErr ⟨#[]⟩ l = ckErr p.1 (l.drop (k + 1))) := Lib.hid (by rw [HE.out, HS.out, if_neg (by simp [HK.out]), if_neg (by simp [HL.out]), if_neg (by simp [hbu, hem])])
              clear hbu
              go_wp2_with fail
              go_roundw
              case rel => exact ⟨k + 1, p.1, by omega, by go_num, rfl, HF.out, hG.alloc _⟩
              case measure => simp [intOf]; omega
            | false =>
              cases hk2 : keyB p.2 with
              | false =>
                have HF : Hid (ckErr ⟨#[]⟩ l = 5) := Lib.hid (by rw [HE.out, HS.out, if_neg (by simp [HK.out]), if_neg (by simp [HL.out]), if_pos (by simp [hbu, hem, hk2])])
                have HK2 := Lib.hid hk2
                clear hbu hk2
                go_wp2_with fail
                refine (isKey_c _ _ hs2).mono ?_; rintro e w' ⟨rfl, rfl⟩
                rw [HK2.out]
                go_wp2_with fail
                go_ret
                exact ⟨by rw [HF.out]; rfl, hG.alloc _⟩
              | true =>
                have HF : Hid (ckErr ⟨#[]⟩ l = ckErr p.1 (l.drop (k + 1))) := Lib.hid (by rw [HE.out, HS.out, if_neg (by simp [HK.out]), if_neg (by simp [HL.out]), if_neg (by simp [hbu, hk2])])
                have HK2 := Lib.hid hk2
                clear hbu hk2
                go_wp2_with fail
                refine (isKey_c _ _ hs2).mono ?_; rintro e w' ⟨rfl, rfl⟩
                rw [HK2.out]
                go_wp2_with fail
                go_roundw
                case rel => exact ⟨k + 1, p.1, by omega, by go_num, rfl, HF.out, hG.alloc _⟩
                case measure => simp [intOf]; omega
    · obtain rfl : k = l.length := by omega
      have HE2 : Hid (ckErr ⟨#[]⟩ l = 0) := Lib.hid (by rw [HE.out, List.drop_length]; rfl)
      go_wp2_with fail
      go_ret
      exact ⟨by rw [HE2.out]; rfl, hG⟩
end Go.Proofs.YtjjgohainbjecaaDoor
