/- Hvk. -/
import Derived.Test.YtdcofbciebkfkaaDoorZm6
import Derived.Test.YtdcofbciebkfkaaDoorZm3
import Derived.Test.YtdcofbciebkfkaaDoorZm5
/- Hires that a generator keeps in a variable. -/
namespace Go.Proofs.YtdcofbciebkfkaaDoor
open Go.RowKit

/-- A fact that stands while nothing but the stream's block is written. -/
def Kp (s : Nat) (w : World) (P : World → Prop) : Prop := ∀ w', G w w' (some s) → P w'
theorem Kp.now {s : Nat} {w : World} {P : World → Prop} (h : Kp s w P) : P w := h w (G.refl _ _)
theorem Kp.step {s : Nat} {w w' : World} {P : World → Prop} (h : Kp s w P) (hG : G w w' (some s)) : Kp s w' P := fun _ hg => h _ (hG.trans hg)
theorem Kp.quiet {s : Nat} {w w' : World} {P : World → Prop} (h : Kp s w P) (hG : G w w' none) : Kp s w' P := h.step (hG.but _)
theorem Kp.and {s : Nat} {w : World} {P Q : World → Prop} (h : Kp s w P) (k : Kp s w Q) : Kp s w (fun w => P w ∧ Q w) := fun w' hg => ⟨h w' hg, k w' hg⟩
theorem Kp.bk {s : Nat} {w : World} {g : Nat} {T : TypeId} {cs : Array Value} (h : Bk w g T cs) (hg : s < g) : Kp s w (fun w => Bk w g T cs) := fun _ hG => h.grown hG (fun e => by have := Option.some.inj e; omega)
theorem Kp.rd {s : Nat} {w : World} {z n : Nat} {v : Value} {cs : List Value} (h : Rd w z v n cs) (hb : ∀ k, v.ownBlock = some k → s < k) : Kp s w (fun w => Rd w z v n cs) := fun _ hG => h.grown hG (fun k e hk => by cases e; have := hb _ hk; omega)
/-- A list that was just made. -/
theorem Kp.made {s : Nat} {w : World} (n : Nat) (T : TypeId) (cs : Array Value) (hc : cs.size = n * 1) (hn : n ≤ maxLen) (hs : s < w.heap.size) : Kp s (w.alloc (.cells cs T)) (fun w' => Rd w' 1 (.slice (some ⟨w.heap.size, 0, none⟩) n n) n cs.toList) :=
  Kp.rd (Rd.new cs hc hn) (fun k e => by cases e; exact hs)
theorem SB.ne {w : World} {s K g n c : Nat} (_ : SB w s K) (hg : s < g) : (Value.slice (some ⟨g, 0, none⟩) n c).ownBlock ≠ some s := fun e => by
  have : g = s := Option.some.inj e
  omega
/-- A hire that is right, and small. -/
def HOk (H : Hh) (l : List Lg) : Prop := hiE H l = 0 ∧ LgOk l ∧ Small H.1 ∧ Small H.2.1 ∧ bnd H.2.2.1 ∧ bnd H.2.2.2
theorem HOk.len {H : Hh} {l : List Lg} (h : HOk H l) : 0 < l.length ∧ l.length ≤ 20 := hiE_pos h.1
/-- A variable holds a hire; what it holds was made since. -/
def HV (N g x : Nat) (H : Hh) (l : List Lg) (w : World) : Prop :=
  ∃ a c, Bk w g 33 (hiC H (.slice a l.length c)) ∧ RdR w 9 lgC (.slice a l.length c) l ∧ (∀ k, (Value.slice a l.length c).ownBlock = some k → N ≤ k ∧ k ≠ g ∧ k ≠ x) ∧ N ≤ g
theorem HV.ks {N g x s : Nat} {H : Hh} {l : List Lg} {w : World} (h : HV N g x H l w) (hs : s < N) : KS (Snew s w.heap.size) w (HV N g x H l) := by
  obtain ⟨a, c, q1, q2, q3, q4⟩ := h
  intro w' hg
  refine ⟨a, c, q1.gs hg ?_, q2.gs hg ?_, q3, q4⟩
  · rintro (e | e)
    · omega
    · have := q1.lt; omega
  · rintro k hk (e | e)
    · have := q3 k hk; omega
    · have := Rd.blk q2 k hk; omega
theorem KS.old {s g : Nat} {T : TypeId} {cs : Array Value} {w : World} (h : Bk w g T cs) (hs : s < g) : KS (Snew s w.heap.size) w (fun w => Bk w g T cs) := KS.bk h (by
  rintro (e | e)
  · omega
  · have := h.lt; omega)
theorem hv_leaf {E : Int} {H' h : Hh} {l : List Lg} {a : Option Addr} {n c N g x : Nat} {w : World} (hE : E = 0 → hiE h l = 0) (hHH : H' = hiH E h) (hR : RdR w 9 lgC (.slice a n c) (hiL E l)) (hB : Bk w g 33 #[.string H'.1, .string H'.2.1, .int .i64 H'.2.2.1, .int .i64 H'.2.2.2, .slice a n c])
    (hb : ∀ k, (Value.slice a n c).ownBlock = some k → N ≤ k ∧ k ≠ g ∧ k ≠ x) (hg : N ≤ g) (hl : LgOk l) (s1 : Small h.1) (s2 : Small h.2.1) (b1 : bnd h.2.2.1) (b2 : bnd h.2.2.2) : E = 0 → HOk h l ∧ HV N g x h l w := by
  intro e
  subst e
  obtain rfl : H' = h := hHH
  have hR : RdR w 9 lgC (.slice a n c) l := hR
  obtain ⟨a', c', hv, -, -⟩ := RdR.form hR
  cases hv
  exact ⟨⟨hE rfl, hl, s1, s2, b1, b2⟩, a, c, hB, hR, hb, hg⟩
theorem chR_ok {l : List Lg} {h2 : Hh} {l2 : List Lg} (e : chR l h2 l2 = 0) : hiE h2 l2 = 0 := by
  unfold chR at e
  split at e
  · exact e
  · cases e
def RhPost (s K : Nat) (w : World) (e : Ending) (w' : World) : Prop :=
  ∃ (H : Hh) (l : List Lg) (a : Option Addr) (c : Nat), e = .returned (.agg (hiC H (.slice a l.length c))) ∧ HOk H l ∧ RdR w' 9 lgC (.slice a l.length c) l ∧ (∀ k, (Value.slice a l.length c).ownBlock = some k → w.heap.size ≤ k) ∧ SB w' s (K + 700) ∧ G w w' (some s)
/-- The hire that begins at a moment, whatever its key. -/
theorem fall_ok {key : ByteArray} {f : Int} (hk : keyB key = true) (h0 : 0 ≤ f) (h1 : f ≤ 1000000) : hiE (key, ⟨#[97, 110, 110]⟩, f, f + 60) [(⟨#[118, 49]⟩, (f, ⟨#[115, 49]⟩, 0, 0), noIn)] = 0 := by
  have k1 : keyB ⟨#[97, 110, 110]⟩ = true := by decide +kernel
  have k2 : keyB ⟨#[118, 49]⟩ = true := by decide +kernel
  have k3 : keyB ⟨#[115, 49]⟩ = true := by decide +kernel
  have k4 : tE f (f + 60) = 0 := by
    unfold tE
    rw [if_pos (by omega), if_neg (by omega)]
  have k5 : momB f = true := by simp [momB]; omega
  have k6 : rgE (f, ⟨#[115, 49]⟩, 0, 0) = 0 := by
    unfold rgE
    rw [if_neg (by show ¬ momB f = false; rw [k5]; simp), if_neg (by show ¬ keyB ⟨#[115, 49]⟩ = false; rw [k3]; simp), if_neg (by show ¬ inB 0 0 999999 = false; decide), if_neg (by show ¬ inB 0 0 8 = false; decide)]
  unfold hiE
  rw [if_neg (by show ¬ keyB key = false; rw [hk]; simp), if_neg (by show ¬ keyB ⟨#[97, 110, 110]⟩ = false; rw [k1]; simp), if_pos k4, if_neg (by simp), if_neg (by simp)]
  unfold lsE lgE
  rw [if_pos]
  · rfl
  · rw [if_neg (by show ¬ keyB ⟨#[118, 49]⟩ = false; rw [k2]; simp), if_pos (show rgE (f, ⟨#[115, 49]⟩, 0, 0) = 0 from k6), if_pos (show beE f none (⟨#[118, 49]⟩, (f, ⟨#[115, 49]⟩, 0, 0), noIn) = 0 from if_pos rfl)]
    rfl
end Go.Proofs.YtdcofbciebkfkaaDoor
