/- Generator: Stations. -/
import Derived.Test.YtgofeigebldkiaaDoorGenS
namespace Go.Proofs.YtgofeigebldkiaaDoor
open Go.RowKit

/-- A station: its key, its hours. -/
abbrev Sta := ByteArray × (Nat → Int)
def stL (l : List Sta) : List Value := l.flatMap fun p => (stC p.1 p.2).toList
theorem stL_len (l : List Sta) : (stL l).length = l.length * 15 := by
  induction l with
  | nil => rfl
  | cons p l ih => rw [show stL (p :: l) = (stC p.1 p.2).toList ++ stL l from rfl, List.length_append, ih, List.length_cons, show (stC p.1 p.2).toList.length = 15 from rfl]; omega
theorem stL_snoc (l : List Sta) (p : Sta) : stL (l ++ [p]) = stL l ++ (stC p.1 p.2).toList := by simp [stL]
def StsKeys : List ByteArray := [⟨#[115, 49]⟩, ⟨#[115, 50]⟩, ⟨#[115, 51]⟩]
theorem stC_one (r : ByteArray) (h : Nat → Int) : ∀ u ∈ (stC r h).toList, u.oneCell' = true := by
  intro u hu
  simp [stC] at hu
  rcases hu with rfl | rfl | rfl | rfl | rfl | rfl | rfl | rfl | rfl | rfl | rfl | rfl | rfl | rfl | rfl <;> rfl
theorem Bk.at_ {w : World} {g : Nat} {T : TypeId} {cs : Array Value} (h : Bk w g T cs) : ∀ j u, cs.toList[j]? = some u → w.cell? ((⟨g, 0, none⟩ : Addr).add j) = some u := by
  intro j u hu
  rw [Addr.add_lit, h.cell]
  simpa using hu
end Go.Proofs.YtgofeigebldkiaaDoor
