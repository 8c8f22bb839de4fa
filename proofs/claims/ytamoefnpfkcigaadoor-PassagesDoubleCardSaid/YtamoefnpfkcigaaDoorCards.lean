/-
  DERIVED. GIVEN WITH THE SEED: THE CARDS: each row of YtamoefnpfkcigaaDoorRows.lean that lists a variable, with what it lists TIED to the program's text (the seventh form; the later family's looks); each row that meets fmt, with fmt's text TOLD by the authors' own Lean function (tested against real Go, not proved from fmt's source: count such statements apart). THE CARD IS WHAT COUNTS. Prove the row's statement (the work); the ties are given (YtamoefnpfkcigaaDoorTie.lean); close each card by the builder's one call (the guide's Derived/Test/ToyasCard.lean, 'card_holds'). Laid BY PROGRAM, IN A SANDBOX (cutbox-door.mjs). By AI agents, Wed Nov 11 2026. No macro, syntax, notation, axiom, sorry.
-/
import Derived.Test.YtamoefnpfkcigaaDoorRows
import GoSem.ClaimSeven
namespace Go.Proofs.YtamoefnpfkcigaaDoor
namespace Rows

/-- THE TIED CARD OF 'rentlaw2.CentsSplit'. -/
def centsSplitCard : Claim7 := { stood := { row := centsSplitRow, standIns := [], harness := (true, "26204a52b2bf24600f05e6a6078223feeb25a020d014b6a7df3233885812fbb0"), looks := false }, kinds := [], alts := [], laidByText := true, laidKinds := [.data, .pinned], laidTests := true, laidLooks := .later }
def CentsSplitCardSaid : Prop := Claim7.holds Tryd.pinned (.plain (OpenSpec.ofChange centsSplitSpec)) centsSplitCard

/-- THE TIED CARD OF 'rentlaw2.PassagesDouble'. -/
def passagesDoubleCard : Claim7 := { stood := { row := passagesDoubleRow, standIns := [], harness := (true, "26204a52b2bf24600f05e6a6078223feeb25a020d014b6a7df3233885812fbb0"), looks := false }, kinds := [], alts := [], laidByText := true, laidKinds := [.data, .pinned], laidTests := true, laidLooks := .later }
def PassagesDoubleCardSaid : Prop := Claim7.holds Tryd.pinned (.plain (OpenSpec.ofChange passagesDoubleSpec)) passagesDoubleCard

/-- THE TIED CARD OF 'rentlaw2.ChargesBilled'. -/
def chargesBilledCard : Claim7 := { stood := { row := chargesBilledRow, standIns := [], harness := (true, "26204a52b2bf24600f05e6a6078223feeb25a020d014b6a7df3233885812fbb0"), looks := false }, kinds := [], alts := [], laidByText := true, laidKinds := [.data, .pinned], laidTests := true, laidLooks := .later }
def ChargesBilledCardSaid : Prop := Claim7.holds Tryd.pinned (.plain (OpenSpec.ofChange chargesBilledSpec)) chargesBilledCard

/-- THE SECOND FORM's CARD OF 'rentlaw2.CentsSplit'. -/
def centsSplitUptoCard : Claim7 := { stood := { row := centsSplitUptoRow, standIns := [], harness := (true, "26204a52b2bf24600f05e6a6078223feeb25a020d014b6a7df3233885812fbb0"), looks := false }, kinds := [], alts := [], laidByText := true, laidKinds := [.data, .pinned], laidTests := true, laidLooks := .later }
def CentsSplitUptoCardSaid : Prop := Claim7.holds Tryd.pinned (.plain (OpenSpec.upto centsSplitSpec)) centsSplitUptoCard

/-- THE SECOND FORM's CARD OF 'rentlaw2.PassagesDouble'. -/
def passagesDoubleUptoCard : Claim7 := { stood := { row := passagesDoubleUptoRow, standIns := [], harness := (true, "26204a52b2bf24600f05e6a6078223feeb25a020d014b6a7df3233885812fbb0"), looks := false }, kinds := [], alts := [], laidByText := true, laidKinds := [.data, .pinned], laidTests := true, laidLooks := .later }
def PassagesDoubleUptoCardSaid : Prop := Claim7.holds Tryd.pinned (.plain (OpenSpec.upto passagesDoubleSpec)) passagesDoubleUptoCard

/-- THE SECOND FORM's CARD OF 'rentlaw2.ChargesBilled'. -/
def chargesBilledUptoCard : Claim7 := { stood := { row := chargesBilledUptoRow, standIns := [], harness := (true, "26204a52b2bf24600f05e6a6078223feeb25a020d014b6a7df3233885812fbb0"), looks := false }, kinds := [], alts := [], laidByText := true, laidKinds := [.data, .pinned], laidTests := true, laidLooks := .later }
def ChargesBilledUptoCardSaid : Prop := Claim7.holds Tryd.pinned (.plain (OpenSpec.upto chargesBilledSpec)) chargesBilledUptoCard
end Rows
end Go.Proofs.YtamoefnpfkcigaaDoor
