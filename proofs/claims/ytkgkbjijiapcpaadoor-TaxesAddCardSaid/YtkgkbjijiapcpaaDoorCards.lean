/-
  DERIVED. GIVEN WITH THE SEED: THE CARDS: each row of YtkgkbjijiapcpaaDoorRows.lean that lists a variable, with what it lists TIED to the program's text (the seventh form; the later family's looks); each row that meets fmt, with fmt's text TOLD by the authors' own Lean function (tested against real Go, not proved from fmt's source: count such statements apart). THE CARD IS WHAT COUNTS. Prove the row's statement (the work); the ties are given (YtkgkbjijiapcpaaDoorTie.lean); close each card by the builder's one call (the guide's Derived/Test/ToyasCard.lean, 'card_holds'). Laid BY PROGRAM, IN A SANDBOX (cutbox-door.mjs). By AI agents, Wed Nov 11 2026. No macro, syntax, notation, axiom, sorry.
-/
import Derived.Test.YtkgkbjijiapcpaaDoorRows
import GoSem.ClaimSeven
namespace Go.Proofs.YtkgkbjijiapcpaaDoor
namespace Rows

/-- THE TIED CARD OF 'rentlaw1.TaxesAdd'. -/
def taxesAddCard : Claim7 := { stood := { row := taxesAddRow, standIns := [], harness := (true, "2ae8660f1134607979c3777769044fb6cfe28f9fc99568a13c6f232c9bca882f"), looks := false }, kinds := [], alts := [], laidByText := true, laidKinds := [.data, .pinned], laidTests := true, laidLooks := .later }
def TaxesAddCardSaid : Prop := Claim7.holds Tryd.pinned (.plain (OpenSpec.ofChange taxesAddSpec)) taxesAddCard

/-- THE SECOND FORM's CARD OF 'rentlaw1.TaxesAdd'. -/
def taxesAddUptoCard : Claim7 := { stood := { row := taxesAddUptoRow, standIns := [], harness := (true, "2ae8660f1134607979c3777769044fb6cfe28f9fc99568a13c6f232c9bca882f"), looks := false }, kinds := [], alts := [], laidByText := true, laidKinds := [.data, .pinned], laidTests := true, laidLooks := .later }
def TaxesAddUptoCardSaid : Prop := Claim7.holds Tryd.pinned (.plain (OpenSpec.upto taxesAddSpec)) taxesAddUptoCard
end Rows
end Go.Proofs.YtkgkbjijiapcpaaDoor
