/-
  DERIVED. GIVEN WITH THE SEED: THE CARDS: each row of YtdcofbciebkfkaaDoorRows.lean that lists a variable, with what it lists TIED to the program's text (the seventh form; the later family's looks); each row that meets fmt, with fmt's text TOLD by the authors' own Lean function (tested against real Go, not proved from fmt's source: count such statements apart). THE CARD IS WHAT COUNTS. Prove the row's statement (the work); the ties are given (YtdcofbciebkfkaaDoorTie.lean); close each card by the builder's one call (the guide's Derived/Test/ToyasCard.lean, 'card_holds'). Laid BY PROGRAM, IN A SANDBOX (cutbox-door.mjs). By AI agents, Wed Nov 11 2026. No macro, syntax, notation, axiom, sorry.
-/
import Derived.Test.YtdcofbciebkfkaaDoorRows
import GoSem.ClaimSeven
namespace Go.Proofs.YtdcofbciebkfkaaDoor
namespace Rows

/-- THE TIED CARD OF 'rentlaw1.HireChecks'. -/
def hireChecksCard : Claim7 := { stood := { row := hireChecksRow, standIns := [], harness := (true, "52a25b83a02733259cddf5ec5aa60da8d4e3f9a92abfb9030026a150f582395d"), looks := false }, kinds := [], alts := [], laidByText := true, laidKinds := [.data, .pinned], laidTests := true, laidLooks := .later }
def HireChecksCardSaid : Prop := Claim7.holds Tryd.pinned (.plain (OpenSpec.ofChange hireChecksSpec)) hireChecksCard

/-- THE TIED CARD OF 'rentlaw1.HiresAt'. -/
def hiresAtCard : Claim7 := { stood := { row := hiresAtRow, standIns := [], harness := (true, "52a25b83a02733259cddf5ec5aa60da8d4e3f9a92abfb9030026a150f582395d"), looks := false }, kinds := [], alts := [], laidByText := true, laidKinds := [.data, .pinned], laidTests := true, laidLooks := .later }
def HiresAtCardSaid : Prop := Claim7.holds Tryd.pinned (.plain (OpenSpec.ofChange hiresAtSpec)) hiresAtCard

/-- THE TIED CARD OF 'rentlaw1.HiresClash'. -/
def hiresClashCard : Claim7 := { stood := { row := hiresClashRow, standIns := [], harness := (true, "52a25b83a02733259cddf5ec5aa60da8d4e3f9a92abfb9030026a150f582395d"), looks := false }, kinds := [], alts := [], laidByText := true, laidKinds := [.data, .pinned], laidTests := true, laidLooks := .later }
def HiresClashCardSaid : Prop := Claim7.holds Tryd.pinned (.plain (OpenSpec.ofChange hiresClashSpec)) hiresClashCard

/-- THE TIED CARD OF 'rentkeep1.ClashesMean'. -/
def clashesMeanCard : Claim7 := { stood := { row := clashesMeanRow, standIns := [], harness := (true, "52a25b83a02733259cddf5ec5aa60da8d4e3f9a92abfb9030026a150f582395d"), looks := false }, kinds := [], alts := [], laidByText := true, laidKinds := [.data, .pinned], laidTests := true, laidLooks := .later }
def ClashesMeanCardSaid : Prop := Claim7.holds Tryd.pinned (.plain (OpenSpec.ofChange clashesMeanSpec)) clashesMeanCard

/-- THE TIED CARD OF 'rentlaw2.ChargesBilled'. -/
def chargesBilledCard : Claim7 := { stood := { row := chargesBilledRow, standIns := [], harness := (true, "52a25b83a02733259cddf5ec5aa60da8d4e3f9a92abfb9030026a150f582395d"), looks := false }, kinds := [], alts := [], laidByText := true, laidKinds := [.data, .pinned], laidTests := true, laidLooks := .later }
def ChargesBilledCardSaid : Prop := Claim7.holds Tryd.pinned (.plain (OpenSpec.ofChange chargesBilledSpec)) chargesBilledCard

/-- THE TIED CARD OF 'rentlaw2.CentsSplit'. -/
def centsSplitCard : Claim7 := { stood := { row := centsSplitRow, standIns := [], harness := (true, "52a25b83a02733259cddf5ec5aa60da8d4e3f9a92abfb9030026a150f582395d"), looks := false }, kinds := [], alts := [], laidByText := true, laidKinds := [.data, .pinned], laidTests := true, laidLooks := .later }
def CentsSplitCardSaid : Prop := Claim7.holds Tryd.pinned (.plain (OpenSpec.ofChange centsSplitSpec)) centsSplitCard

/-- THE TIED CARD OF 'rentlaw2.PassagesDouble'. -/
def passagesDoubleCard : Claim7 := { stood := { row := passagesDoubleRow, standIns := [], harness := (true, "52a25b83a02733259cddf5ec5aa60da8d4e3f9a92abfb9030026a150f582395d"), looks := false }, kinds := [], alts := [], laidByText := true, laidKinds := [.data, .pinned], laidTests := true, laidLooks := .later }
def PassagesDoubleCardSaid : Prop := Claim7.holds Tryd.pinned (.plain (OpenSpec.ofChange passagesDoubleSpec)) passagesDoubleCard

/-- THE SECOND FORM's CARD OF 'rentlaw1.HireChecks'. -/
def hireChecksUptoCard : Claim7 := { stood := { row := hireChecksUptoRow, standIns := [], harness := (true, "52a25b83a02733259cddf5ec5aa60da8d4e3f9a92abfb9030026a150f582395d"), looks := false }, kinds := [], alts := [], laidByText := true, laidKinds := [.data, .pinned], laidTests := true, laidLooks := .later }
def HireChecksUptoCardSaid : Prop := Claim7.holds Tryd.pinned (.plain (OpenSpec.upto hireChecksSpec)) hireChecksUptoCard

/-- THE SECOND FORM's CARD OF 'rentlaw1.HiresAt'. -/
def hiresAtUptoCard : Claim7 := { stood := { row := hiresAtUptoRow, standIns := [], harness := (true, "52a25b83a02733259cddf5ec5aa60da8d4e3f9a92abfb9030026a150f582395d"), looks := false }, kinds := [], alts := [], laidByText := true, laidKinds := [.data, .pinned], laidTests := true, laidLooks := .later }
def HiresAtUptoCardSaid : Prop := Claim7.holds Tryd.pinned (.plain (OpenSpec.upto hiresAtSpec)) hiresAtUptoCard

/-- THE SECOND FORM's CARD OF 'rentlaw1.HiresClash'. -/
def hiresClashUptoCard : Claim7 := { stood := { row := hiresClashUptoRow, standIns := [], harness := (true, "52a25b83a02733259cddf5ec5aa60da8d4e3f9a92abfb9030026a150f582395d"), looks := false }, kinds := [], alts := [], laidByText := true, laidKinds := [.data, .pinned], laidTests := true, laidLooks := .later }
def HiresClashUptoCardSaid : Prop := Claim7.holds Tryd.pinned (.plain (OpenSpec.upto hiresClashSpec)) hiresClashUptoCard

/-- THE SECOND FORM's CARD OF 'rentkeep1.ClashesMean'. -/
def clashesMeanUptoCard : Claim7 := { stood := { row := clashesMeanUptoRow, standIns := [], harness := (true, "52a25b83a02733259cddf5ec5aa60da8d4e3f9a92abfb9030026a150f582395d"), looks := false }, kinds := [], alts := [], laidByText := true, laidKinds := [.data, .pinned], laidTests := true, laidLooks := .later }
def ClashesMeanUptoCardSaid : Prop := Claim7.holds Tryd.pinned (.plain (OpenSpec.upto clashesMeanSpec)) clashesMeanUptoCard

/-- THE SECOND FORM's CARD OF 'rentlaw2.ChargesBilled'. -/
def chargesBilledUptoCard : Claim7 := { stood := { row := chargesBilledUptoRow, standIns := [], harness := (true, "52a25b83a02733259cddf5ec5aa60da8d4e3f9a92abfb9030026a150f582395d"), looks := false }, kinds := [], alts := [], laidByText := true, laidKinds := [.data, .pinned], laidTests := true, laidLooks := .later }
def ChargesBilledUptoCardSaid : Prop := Claim7.holds Tryd.pinned (.plain (OpenSpec.upto chargesBilledSpec)) chargesBilledUptoCard

/-- THE SECOND FORM's CARD OF 'rentlaw2.CentsSplit'. -/
def centsSplitUptoCard : Claim7 := { stood := { row := centsSplitUptoRow, standIns := [], harness := (true, "52a25b83a02733259cddf5ec5aa60da8d4e3f9a92abfb9030026a150f582395d"), looks := false }, kinds := [], alts := [], laidByText := true, laidKinds := [.data, .pinned], laidTests := true, laidLooks := .later }
def CentsSplitUptoCardSaid : Prop := Claim7.holds Tryd.pinned (.plain (OpenSpec.upto centsSplitSpec)) centsSplitUptoCard

/-- THE SECOND FORM's CARD OF 'rentlaw2.PassagesDouble'. -/
def passagesDoubleUptoCard : Claim7 := { stood := { row := passagesDoubleUptoRow, standIns := [], harness := (true, "52a25b83a02733259cddf5ec5aa60da8d4e3f9a92abfb9030026a150f582395d"), looks := false }, kinds := [], alts := [], laidByText := true, laidKinds := [.data, .pinned], laidTests := true, laidLooks := .later }
def PassagesDoubleUptoCardSaid : Prop := Claim7.holds Tryd.pinned (.plain (OpenSpec.upto passagesDoubleSpec)) passagesDoubleUptoCard
end Rows
end Go.Proofs.YtdcofbciebkfkaaDoor
