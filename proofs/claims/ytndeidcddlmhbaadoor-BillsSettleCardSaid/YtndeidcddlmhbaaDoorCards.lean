/-
  DERIVED. GIVEN WITH THE SEED: THE CARDS: each row of YtndeidcddlmhbaaDoorRows.lean that lists a variable, with what it lists TIED to the program's text (the seventh form; the later family's looks); each row that meets fmt, with fmt's text TOLD by the authors' own Lean function (tested against real Go, not proved from fmt's source: count such statements apart). THE CARD IS WHAT COUNTS. Prove the row's statement (the work); the ties are given (YtndeidcddlmhbaaDoorTie.lean); close each card by the builder's one call (the guide's Derived/Test/ToyasCard.lean, 'card_holds'). Laid BY PROGRAM, IN A SANDBOX (cutbox-door.mjs). By AI agents, Wed Nov 11 2026. No macro, syntax, notation, axiom, sorry.
-/
import Derived.Test.YtndeidcddlmhbaaDoorRows
import GoSem.ClaimSeven
namespace Go.Proofs.YtndeidcddlmhbaaDoor
namespace Rows

/-- THE TIED CARD OF 'rentlaw1.CancelsCost'. -/
def cancelsCostCard : Claim7 := { stood := { row := cancelsCostRow, standIns := [], harness := (true, "c6962153c692a11b5d7b5ddde2270f0deea93d1a674c2059555439727147ae2d"), looks := false }, kinds := [], alts := [], laidByText := true, laidKinds := [.data, .pinned], laidTests := true, laidLooks := .later }
def CancelsCostCardSaid : Prop := Claim7.holds Tryd.pinned (.plain (OpenSpec.ofChange cancelsCostSpec)) cancelsCostCard

/-- THE TIED CARD OF 'rentlaw1.HireStarts'. -/
def hireStartsCard : Claim7 := { stood := { row := hireStartsRow, standIns := [], harness := (true, "c6962153c692a11b5d7b5ddde2270f0deea93d1a674c2059555439727147ae2d"), looks := false }, kinds := [], alts := [], laidByText := true, laidKinds := [.data, .pinned], laidTests := true, laidLooks := .later }
def HireStartsCardSaid : Prop := Claim7.holds Tryd.pinned (.plain (OpenSpec.ofChange hireStartsSpec)) hireStartsCard

/-- THE TIED CARD OF 'rentlaw1.DriversMay'. -/
def driversMayCard : Claim7 := { stood := { row := driversMayRow, standIns := [], harness := (true, "c6962153c692a11b5d7b5ddde2270f0deea93d1a674c2059555439727147ae2d"), looks := false }, kinds := [], alts := [], laidByText := true, laidKinds := [.data, .pinned], laidTests := true, laidLooks := .later }
def DriversMayCardSaid : Prop := Claim7.holds Tryd.pinned (.plain (OpenSpec.ofChange driversMaySpec)) driversMayCard

/-- THE TIED CARD OF 'rentlaw1.RateChecks'. -/
def rateChecksCard : Claim7 := { stood := { row := rateChecksRow, standIns := [], harness := (true, "c6962153c692a11b5d7b5ddde2270f0deea93d1a674c2059555439727147ae2d"), looks := false }, kinds := [], alts := [], laidByText := true, laidKinds := [.data, .pinned], laidTests := true, laidLooks := .later }
def RateChecksCardSaid : Prop := Claim7.holds Tryd.pinned (.plain (OpenSpec.ofChange rateChecksSpec)) rateChecksCard

/-- THE TIED CARD OF 'rentlaw1.CodesTake'. -/
def codesTakeCard : Claim7 := { stood := { row := codesTakeRow, standIns := [], harness := (true, "c6962153c692a11b5d7b5ddde2270f0deea93d1a674c2059555439727147ae2d"), looks := false }, kinds := [], alts := [], laidByText := true, laidKinds := [.data, .pinned], laidTests := true, laidLooks := .later }
def CodesTakeCardSaid : Prop := Claim7.holds Tryd.pinned (.plain (OpenSpec.ofChange codesTakeSpec)) codesTakeCard

/-- THE TIED CARD OF 'rentlaw2.PlacesCheck'. -/
def placesCheckCard : Claim7 := { stood := { row := placesCheckRow, standIns := [], harness := (true, "c6962153c692a11b5d7b5ddde2270f0deea93d1a674c2059555439727147ae2d"), looks := false }, kinds := [], alts := [], laidByText := true, laidKinds := [.data, .pinned], laidTests := true, laidLooks := .later }
def PlacesCheckCardSaid : Prop := Claim7.holds Tryd.pinned (.plain (OpenSpec.ofChange placesCheckSpec)) placesCheckCard

/-- THE TIED CARD OF 'rentkeep1.BillsSettle'. -/
def billsSettleCard : Claim7 := { stood := { row := billsSettleRow, standIns := [], harness := (true, "c6962153c692a11b5d7b5ddde2270f0deea93d1a674c2059555439727147ae2d"), looks := false }, kinds := [], alts := [], laidByText := true, laidKinds := [.data, .pinned], laidTests := true, laidLooks := .later }
def BillsSettleCardSaid : Prop := Claim7.holds Tryd.pinned (.plain (OpenSpec.ofChange billsSettleSpec)) billsSettleCard

/-- THE SECOND FORM's CARD OF 'rentlaw1.CancelsCost'. -/
def cancelsCostUptoCard : Claim7 := { stood := { row := cancelsCostUptoRow, standIns := [], harness := (true, "c6962153c692a11b5d7b5ddde2270f0deea93d1a674c2059555439727147ae2d"), looks := false }, kinds := [], alts := [], laidByText := true, laidKinds := [.data, .pinned], laidTests := true, laidLooks := .later }
def CancelsCostUptoCardSaid : Prop := Claim7.holds Tryd.pinned (.plain (OpenSpec.upto cancelsCostSpec)) cancelsCostUptoCard

/-- THE SECOND FORM's CARD OF 'rentlaw1.HireStarts'. -/
def hireStartsUptoCard : Claim7 := { stood := { row := hireStartsUptoRow, standIns := [], harness := (true, "c6962153c692a11b5d7b5ddde2270f0deea93d1a674c2059555439727147ae2d"), looks := false }, kinds := [], alts := [], laidByText := true, laidKinds := [.data, .pinned], laidTests := true, laidLooks := .later }
def HireStartsUptoCardSaid : Prop := Claim7.holds Tryd.pinned (.plain (OpenSpec.upto hireStartsSpec)) hireStartsUptoCard

/-- THE SECOND FORM's CARD OF 'rentlaw1.DriversMay'. -/
def driversMayUptoCard : Claim7 := { stood := { row := driversMayUptoRow, standIns := [], harness := (true, "c6962153c692a11b5d7b5ddde2270f0deea93d1a674c2059555439727147ae2d"), looks := false }, kinds := [], alts := [], laidByText := true, laidKinds := [.data, .pinned], laidTests := true, laidLooks := .later }
def DriversMayUptoCardSaid : Prop := Claim7.holds Tryd.pinned (.plain (OpenSpec.upto driversMaySpec)) driversMayUptoCard

/-- THE SECOND FORM's CARD OF 'rentlaw1.RateChecks'. -/
def rateChecksUptoCard : Claim7 := { stood := { row := rateChecksUptoRow, standIns := [], harness := (true, "c6962153c692a11b5d7b5ddde2270f0deea93d1a674c2059555439727147ae2d"), looks := false }, kinds := [], alts := [], laidByText := true, laidKinds := [.data, .pinned], laidTests := true, laidLooks := .later }
def RateChecksUptoCardSaid : Prop := Claim7.holds Tryd.pinned (.plain (OpenSpec.upto rateChecksSpec)) rateChecksUptoCard

/-- THE SECOND FORM's CARD OF 'rentlaw1.CodesTake'. -/
def codesTakeUptoCard : Claim7 := { stood := { row := codesTakeUptoRow, standIns := [], harness := (true, "c6962153c692a11b5d7b5ddde2270f0deea93d1a674c2059555439727147ae2d"), looks := false }, kinds := [], alts := [], laidByText := true, laidKinds := [.data, .pinned], laidTests := true, laidLooks := .later }
def CodesTakeUptoCardSaid : Prop := Claim7.holds Tryd.pinned (.plain (OpenSpec.upto codesTakeSpec)) codesTakeUptoCard

/-- THE SECOND FORM's CARD OF 'rentlaw2.PlacesCheck'. -/
def placesCheckUptoCard : Claim7 := { stood := { row := placesCheckUptoRow, standIns := [], harness := (true, "c6962153c692a11b5d7b5ddde2270f0deea93d1a674c2059555439727147ae2d"), looks := false }, kinds := [], alts := [], laidByText := true, laidKinds := [.data, .pinned], laidTests := true, laidLooks := .later }
def PlacesCheckUptoCardSaid : Prop := Claim7.holds Tryd.pinned (.plain (OpenSpec.upto placesCheckSpec)) placesCheckUptoCard

/-- THE SECOND FORM's CARD OF 'rentkeep1.BillsSettle'. -/
def billsSettleUptoCard : Claim7 := { stood := { row := billsSettleUptoRow, standIns := [], harness := (true, "c6962153c692a11b5d7b5ddde2270f0deea93d1a674c2059555439727147ae2d"), looks := false }, kinds := [], alts := [], laidByText := true, laidKinds := [.data, .pinned], laidTests := true, laidLooks := .later }
def BillsSettleUptoCardSaid : Prop := Claim7.holds Tryd.pinned (.plain (OpenSpec.upto billsSettleSpec)) billsSettleUptoCard
end Rows
end Go.Proofs.YtndeidcddlmhbaaDoor
