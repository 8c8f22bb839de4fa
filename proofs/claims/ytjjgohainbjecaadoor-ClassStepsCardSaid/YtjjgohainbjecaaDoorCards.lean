/-
  DERIVED. GIVEN WITH THE SEED: THE CARDS: each row of YtjjgohainbjecaaDoorRows.lean that lists a variable, with what it lists TIED to the program's text (the seventh form; the later family's looks); each row that meets fmt, with fmt's text TOLD by the authors' own Lean function (tested against real Go, not proved from fmt's source: count such statements apart). THE CARD IS WHAT COUNTS. Prove the row's statement (the work); the ties are given (YtjjgohainbjecaaDoorTie.lean); close each card by the builder's one call (the guide's Derived/Test/ToyasCard.lean, 'card_holds'). Laid BY PROGRAM, IN A SANDBOX (cutbox-door.mjs). By AI agents, Wed Nov 11 2026. No macro, syntax, notation, axiom, sorry.
-/
import Derived.Test.YtjjgohainbjecaaDoorRows
import GoSem.ClaimSeven
namespace Go.Proofs.YtjjgohainbjecaaDoor
namespace Rows

/-- THE TIED CARD OF 'rentlaw1.ClassSteps'. -/
def classStepsCard : Claim7 := { stood := { row := classStepsRow, standIns := [], harness := (true, "1a488fac7ed7250bd4e7e50586f7fbaaa9443b7a879a0e56aa79e404caa430bc"), looks := false }, kinds := [], alts := [], laidByText := true, laidKinds := [.data, .data, .pinned], laidTests := true, laidLooks := .later }
def ClassStepsCardSaid : Prop := Claim7.holds Tryd.pinned (.plain (OpenSpec.ofChange classStepsSpec)) classStepsCard

/-- THE SECOND FORM's CARD OF 'rentlaw1.ClassSteps'. -/
def classStepsUptoCard : Claim7 := { stood := { row := classStepsUptoRow, standIns := [], harness := (true, "1a488fac7ed7250bd4e7e50586f7fbaaa9443b7a879a0e56aa79e404caa430bc"), looks := false }, kinds := [], alts := [], laidByText := true, laidKinds := [.data, .data, .pinned], laidTests := true, laidLooks := .later }
def ClassStepsUptoCardSaid : Prop := Claim7.holds Tryd.pinned (.plain (OpenSpec.upto classStepsSpec)) classStepsUptoCard
end Rows
end Go.Proofs.YtjjgohainbjecaaDoor
