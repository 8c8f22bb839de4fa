/-
  DERIVED. GIVEN WITH THE SEED: THE CARDS: each row of YtkpmcakppiinlaaDoorRows.lean that lists a variable, with what it lists TIED to the program's text (the seventh form; the later family's looks); each row that meets fmt, with fmt's text TOLD by the authors' own Lean function (tested against real Go, not proved from fmt's source: count such statements apart). THE CARD IS WHAT COUNTS. Prove the row's statement (the work); the ties are given (YtkpmcakppiinlaaDoorTie.lean); close each card by the builder's one call (the guide's Derived/Test/ToyasCard.lean, 'card_holds'). Laid BY PROGRAM, IN A SANDBOX (cutbox-door.mjs). By AI agents, Wed Nov 11 2026. No macro, syntax, notation, axiom, sorry.
-/
import Derived.Test.YtkpmcakppiinlaaDoorRows
import GoSem.ClaimSeven
namespace Go.Proofs.YtkpmcakppiinlaaDoor
namespace Rows

/-- THE TIED CARD OF 'rentlaw2.PassagesMerge'. -/
def passagesMergeCard : Claim7 := { stood := { row := passagesMergeRow, standIns := [], harness := (true, "8d4e9ca63cd4be5c9f0cd8102f0a83b2c471dc5594a68bcf3defaf5c4d7133a0"), looks := false }, kinds := [], alts := [], laidByText := true, laidKinds := [.data, .pinned], laidTests := true, laidLooks := .later }
def PassagesMergeCardSaid : Prop := Claim7.holds Tryd.pinned (.plain (OpenSpec.ofChange passagesMergeSpec)) passagesMergeCard

/-- THE SECOND FORM's CARD OF 'rentlaw2.PassagesMerge'. -/
def passagesMergeUptoCard : Claim7 := { stood := { row := passagesMergeUptoRow, standIns := [], harness := (true, "8d4e9ca63cd4be5c9f0cd8102f0a83b2c471dc5594a68bcf3defaf5c4d7133a0"), looks := false }, kinds := [], alts := [], laidByText := true, laidKinds := [.data, .pinned], laidTests := true, laidLooks := .later }
def PassagesMergeUptoCardSaid : Prop := Claim7.holds Tryd.pinned (.plain (OpenSpec.upto passagesMergeSpec)) passagesMergeUptoCard
end Rows
end Go.Proofs.YtkpmcakppiinlaaDoor
