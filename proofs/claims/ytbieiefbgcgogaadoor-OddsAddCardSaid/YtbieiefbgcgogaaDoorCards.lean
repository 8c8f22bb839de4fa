/-
  DERIVED. GIVEN WITH THE SEED: THE CARDS: each row of YtbieiefbgcgogaaDoorRows.lean that lists a variable, with what it lists TIED to the program's text (the seventh form; the later family's looks); each row that meets fmt, with fmt's text TOLD by the authors' own Lean function (tested against real Go, not proved from fmt's source: count such statements apart). THE CARD IS WHAT COUNTS. Prove the row's statement (the work); the ties are given (YtbieiefbgcgogaaDoorTie.lean); close each card by the builder's one call (the guide's Derived/Test/ToyasCard.lean, 'card_holds'). Laid BY PROGRAM, IN A SANDBOX (cutbox-door.mjs). By AI agents, Wed Nov 11 2026. No macro, syntax, notation, axiom, sorry.
-/
import Derived.Test.YtbieiefbgcgogaaDoorRows
import GoSem.ClaimSeven
namespace Go.Proofs.YtbieiefbgcgogaaDoor
namespace Rows

/-- THE TIED CARD OF 'rentlaw1.OddsExact'. -/
def oddsExactCard : Claim7 := { stood := { row := oddsExactRow, standIns := [], harness := (true, "9cbed4d278bb935ec931254a12814224882f66d9b1a6552b37f4bec1c768f523"), looks := false }, kinds := [], alts := [], laidByText := true, laidKinds := [.data, .pinned], laidTests := true, laidLooks := .later }
def OddsExactCardSaid : Prop := Claim7.holds Tryd.pinned (.plain (OpenSpec.ofChange oddsExactSpec)) oddsExactCard

/-- THE TIED CARD OF 'rentlaw1.HireStarts'. -/
def hireStartsCard : Claim7 := { stood := { row := hireStartsRow, standIns := [], harness := (true, "9cbed4d278bb935ec931254a12814224882f66d9b1a6552b37f4bec1c768f523"), looks := false }, kinds := [], alts := [], laidByText := true, laidKinds := [.data, .pinned], laidTests := true, laidLooks := .later }
def HireStartsCardSaid : Prop := Claim7.holds Tryd.pinned (.plain (OpenSpec.ofChange hireStartsSpec)) hireStartsCard

/-- THE TIED CARD OF 'rentlaw1.DriversMay'. -/
def driversMayCard : Claim7 := { stood := { row := driversMayRow, standIns := [], harness := (true, "9cbed4d278bb935ec931254a12814224882f66d9b1a6552b37f4bec1c768f523"), looks := false }, kinds := [], alts := [], laidByText := true, laidKinds := [.data, .pinned], laidTests := true, laidLooks := .later }
def DriversMayCardSaid : Prop := Claim7.holds Tryd.pinned (.plain (OpenSpec.ofChange driversMaySpec)) driversMayCard

/-- THE TIED CARD OF 'rentlaw1.TaxesAdd'. -/
def taxesAddCard : Claim7 := { stood := { row := taxesAddRow, standIns := [], harness := (true, "9cbed4d278bb935ec931254a12814224882f66d9b1a6552b37f4bec1c768f523"), looks := false }, kinds := [], alts := [], laidByText := true, laidKinds := [.data, .pinned], laidTests := true, laidLooks := .later }
def TaxesAddCardSaid : Prop := Claim7.holds Tryd.pinned (.plain (OpenSpec.ofChange taxesAddSpec)) taxesAddCard

/-- THE TIED CARD OF 'rentkeep1.OddsAdd'. -/
def oddsAddCard : Claim7 := { stood := { row := oddsAddRow, standIns := [], harness := (true, "9cbed4d278bb935ec931254a12814224882f66d9b1a6552b37f4bec1c768f523"), looks := false }, kinds := [], alts := [], laidByText := true, laidKinds := [.data, .pinned], laidTests := true, laidLooks := .later }
def OddsAddCardSaid : Prop := Claim7.holds Tryd.pinned (.plain (OpenSpec.ofChange oddsAddSpec)) oddsAddCard

/-- THE SECOND FORM's CARD OF 'rentlaw1.OddsExact'. -/
def oddsExactUptoCard : Claim7 := { stood := { row := oddsExactUptoRow, standIns := [], harness := (true, "9cbed4d278bb935ec931254a12814224882f66d9b1a6552b37f4bec1c768f523"), looks := false }, kinds := [], alts := [], laidByText := true, laidKinds := [.data, .pinned], laidTests := true, laidLooks := .later }
def OddsExactUptoCardSaid : Prop := Claim7.holds Tryd.pinned (.plain (OpenSpec.upto oddsExactSpec)) oddsExactUptoCard

/-- THE SECOND FORM's CARD OF 'rentlaw1.HireStarts'. -/
def hireStartsUptoCard : Claim7 := { stood := { row := hireStartsUptoRow, standIns := [], harness := (true, "9cbed4d278bb935ec931254a12814224882f66d9b1a6552b37f4bec1c768f523"), looks := false }, kinds := [], alts := [], laidByText := true, laidKinds := [.data, .pinned], laidTests := true, laidLooks := .later }
def HireStartsUptoCardSaid : Prop := Claim7.holds Tryd.pinned (.plain (OpenSpec.upto hireStartsSpec)) hireStartsUptoCard

/-- THE SECOND FORM's CARD OF 'rentlaw1.DriversMay'. -/
def driversMayUptoCard : Claim7 := { stood := { row := driversMayUptoRow, standIns := [], harness := (true, "9cbed4d278bb935ec931254a12814224882f66d9b1a6552b37f4bec1c768f523"), looks := false }, kinds := [], alts := [], laidByText := true, laidKinds := [.data, .pinned], laidTests := true, laidLooks := .later }
def DriversMayUptoCardSaid : Prop := Claim7.holds Tryd.pinned (.plain (OpenSpec.upto driversMaySpec)) driversMayUptoCard

/-- THE SECOND FORM's CARD OF 'rentlaw1.TaxesAdd'. -/
def taxesAddUptoCard : Claim7 := { stood := { row := taxesAddUptoRow, standIns := [], harness := (true, "9cbed4d278bb935ec931254a12814224882f66d9b1a6552b37f4bec1c768f523"), looks := false }, kinds := [], alts := [], laidByText := true, laidKinds := [.data, .pinned], laidTests := true, laidLooks := .later }
def TaxesAddUptoCardSaid : Prop := Claim7.holds Tryd.pinned (.plain (OpenSpec.upto taxesAddSpec)) taxesAddUptoCard

/-- THE SECOND FORM's CARD OF 'rentkeep1.OddsAdd'. -/
def oddsAddUptoCard : Claim7 := { stood := { row := oddsAddUptoRow, standIns := [], harness := (true, "9cbed4d278bb935ec931254a12814224882f66d9b1a6552b37f4bec1c768f523"), looks := false }, kinds := [], alts := [], laidByText := true, laidKinds := [.data, .pinned], laidTests := true, laidLooks := .later }
def OddsAddUptoCardSaid : Prop := Claim7.holds Tryd.pinned (.plain (OpenSpec.upto oddsAddSpec)) oddsAddUptoCard
end Rows
end Go.Proofs.YtbieiefbgcgogaaDoor
