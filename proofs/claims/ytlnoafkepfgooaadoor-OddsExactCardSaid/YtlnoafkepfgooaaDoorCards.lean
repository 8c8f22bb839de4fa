/-
  DERIVED. GIVEN WITH THE SEED: THE CARDS: each row of YtlnoafkepfgooaaDoorRows.lean that lists a variable, with what it lists TIED to the program's text (the seventh form; the later family's looks); each row that meets fmt, with fmt's text TOLD by the authors' own Lean function (tested against real Go, not proved from fmt's source: count such statements apart). THE CARD IS WHAT COUNTS. Prove the row's statement (the work); the ties are given (YtlnoafkepfgooaaDoorTie.lean); close each card by the builder's one call (the guide's Derived/Test/ToyasCard.lean, 'card_holds'). Laid BY PROGRAM, IN A SANDBOX (cutbox-door.mjs). By AI agents, Wed Nov 11 2026. No macro, syntax, notation, axiom, sorry.
-/
import Derived.Test.YtlnoafkepfgooaaDoorRows
import GoSem.ClaimSeven
namespace Go.Proofs.YtlnoafkepfgooaaDoor
namespace Rows

/-- THE TIED CARD OF 'rentlaw1.OddsExact'. -/
def oddsExactCard : Claim7 := { stood := { row := oddsExactRow, standIns := [], harness := (true, "b86d706162119098444dcc03ac466801974c1c91f91be761b1ea02a7667315f4"), looks := false }, kinds := [], alts := [], laidByText := true, laidKinds := [.data, .pinned], laidTests := true, laidLooks := .later }
def OddsExactCardSaid : Prop := Claim7.holds Tryd.pinned (.plain (OpenSpec.ofChange oddsExactSpec)) oddsExactCard

/-- THE TIED CARD OF 'rentlaw1.ClassSteps'. -/
def classStepsCard : Claim7 := { stood := { row := classStepsRow, standIns := [], harness := (true, "b86d706162119098444dcc03ac466801974c1c91f91be761b1ea02a7667315f4"), looks := false }, kinds := [], alts := [], laidByText := true, laidKinds := [.data, .data, .pinned], laidTests := true, laidLooks := .later }
def ClassStepsCardSaid : Prop := Claim7.holds Tryd.pinned (.plain (OpenSpec.ofChange classStepsSpec)) classStepsCard

/-- THE SECOND FORM's CARD OF 'rentlaw1.OddsExact'. -/
def oddsExactUptoCard : Claim7 := { stood := { row := oddsExactUptoRow, standIns := [], harness := (true, "b86d706162119098444dcc03ac466801974c1c91f91be761b1ea02a7667315f4"), looks := false }, kinds := [], alts := [], laidByText := true, laidKinds := [.data, .pinned], laidTests := true, laidLooks := .later }
def OddsExactUptoCardSaid : Prop := Claim7.holds Tryd.pinned (.plain (OpenSpec.upto oddsExactSpec)) oddsExactUptoCard

/-- THE SECOND FORM's CARD OF 'rentlaw1.ClassSteps'. -/
def classStepsUptoCard : Claim7 := { stood := { row := classStepsUptoRow, standIns := [], harness := (true, "b86d706162119098444dcc03ac466801974c1c91f91be761b1ea02a7667315f4"), looks := false }, kinds := [], alts := [], laidByText := true, laidKinds := [.data, .data, .pinned], laidTests := true, laidLooks := .later }
def ClassStepsUptoCardSaid : Prop := Claim7.holds Tryd.pinned (.plain (OpenSpec.upto classStepsSpec)) classStepsUptoCard
end Rows
end Go.Proofs.YtlnoafkepfgooaaDoor
