/-
  DERIVED. GIVEN WITH THE SEED: THE CARDS: each row of YtjdkdnnbckogjaaDoorRows.lean that lists a variable, with what it lists TIED to the program's text (the seventh form; the later family's looks); each row that meets fmt, with fmt's text TOLD by the authors' own Lean function (tested against real Go, not proved from fmt's source: count such statements apart). THE CARD IS WHAT COUNTS. Prove the row's statement (the work); the ties are given (YtjdkdnnbckogjaaDoorTie.lean); close each card by the builder's one call (the guide's Derived/Test/ToyasCard.lean, 'card_holds'). Laid BY PROGRAM, IN A SANDBOX (cutbox-door.mjs). By AI agents, Wed Nov 11 2026. No macro, syntax, notation, axiom, sorry.
-/
import Derived.Test.YtjdkdnnbckogjaaDoorRows
import GoSem.ClaimSeven
namespace Go.Proofs.YtjdkdnnbckogjaaDoor
namespace Rows

/-- THE TIED CARD OF 'rentlaw1.StationHours'. -/
def stationHoursCard : Claim7 := { stood := { row := stationHoursRow, standIns := [], harness := (true, "e4dc8a25aaf30151119c6dc0aa7665f49c2a530d0698590f190c9f206e4c529e"), looks := false }, kinds := [], alts := [], laidByText := true, laidKinds := [.data, .data, .pinned], laidTests := true, laidLooks := .later }
def StationHoursCardSaid : Prop := Claim7.holds Tryd.pinned (.plain (OpenSpec.ofChange stationHoursSpec)) stationHoursCard

/-- THE TIED CARD OF 'rentlaw1.ClassSteps'. -/
def classStepsCard : Claim7 := { stood := { row := classStepsRow, standIns := [], harness := (true, "e4dc8a25aaf30151119c6dc0aa7665f49c2a530d0698590f190c9f206e4c529e"), looks := false }, kinds := [], alts := [], laidByText := true, laidKinds := [.data, .data, .pinned], laidTests := true, laidLooks := .later }
def ClassStepsCardSaid : Prop := Claim7.holds Tryd.pinned (.plain (OpenSpec.ofChange classStepsSpec)) classStepsCard

/-- THE SECOND FORM's CARD OF 'rentlaw1.StationHours'. -/
def stationHoursUptoCard : Claim7 := { stood := { row := stationHoursUptoRow, standIns := [], harness := (true, "e4dc8a25aaf30151119c6dc0aa7665f49c2a530d0698590f190c9f206e4c529e"), looks := false }, kinds := [], alts := [], laidByText := true, laidKinds := [.data, .data, .pinned], laidTests := true, laidLooks := .later }
def StationHoursUptoCardSaid : Prop := Claim7.holds Tryd.pinned (.plain (OpenSpec.upto stationHoursSpec)) stationHoursUptoCard

/-- THE SECOND FORM's CARD OF 'rentlaw1.ClassSteps'. -/
def classStepsUptoCard : Claim7 := { stood := { row := classStepsUptoRow, standIns := [], harness := (true, "e4dc8a25aaf30151119c6dc0aa7665f49c2a530d0698590f190c9f206e4c529e"), looks := false }, kinds := [], alts := [], laidByText := true, laidKinds := [.data, .data, .pinned], laidTests := true, laidLooks := .later }
def ClassStepsUptoCardSaid : Prop := Claim7.holds Tryd.pinned (.plain (OpenSpec.upto classStepsSpec)) classStepsUptoCard
end Rows
end Go.Proofs.YtjdkdnnbckogjaaDoor
