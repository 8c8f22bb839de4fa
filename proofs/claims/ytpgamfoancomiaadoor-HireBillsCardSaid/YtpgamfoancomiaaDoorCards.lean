/-
  DERIVED. GIVEN WITH THE SEED: THE CARDS: each row of YtpgamfoancomiaaDoorRows.lean that lists a variable, with what it lists TIED to the program's text (the seventh form; the later family's looks); each row that meets fmt, with fmt's text TOLD by the authors' own Lean function (tested against real Go, not proved from fmt's source: count such statements apart). THE CARD IS WHAT COUNTS. Prove the row's statement (the work); the ties are given (YtpgamfoancomiaaDoorTie.lean); close each card by the builder's one call (the guide's Derived/Test/ToyasCard.lean, 'card_holds'). Laid BY PROGRAM, IN A SANDBOX (cutbox-door.mjs). By AI agents, Wed Nov 11 2026. No macro, syntax, notation, axiom, sorry.
-/
import Derived.Test.YtpgamfoancomiaaDoorRows
import GoSem.ClaimSeven
namespace Go.Proofs.YtpgamfoancomiaaDoor
namespace Rows

/-- THE TIED CARD OF 'rentlaw1.HireChecks'. -/
def hireChecksCard : Claim7 := { stood := { row := hireChecksRow, standIns := [], harness := (true, "c2d6ecc7009d5c02f258b052c0cb48efb704f5d3a1899cf98628420bd3bc5a53"), looks := false }, kinds := [], alts := [], laidByText := true, laidKinds := [.data, .pinned], laidTests := true, laidLooks := .later }
def HireChecksCardSaid : Prop := Claim7.holds Tryd.pinned (.plain (OpenSpec.ofChange hireChecksSpec)) hireChecksCard

/-- THE TIED CARD OF 'rentlaw1.HireSums'. -/
def hireSumsCard : Claim7 := { stood := { row := hireSumsRow, standIns := [], harness := (true, "c2d6ecc7009d5c02f258b052c0cb48efb704f5d3a1899cf98628420bd3bc5a53"), looks := false }, kinds := [], alts := [], laidByText := true, laidKinds := [.data, .pinned], laidTests := true, laidLooks := .later }
def HireSumsCardSaid : Prop := Claim7.holds Tryd.pinned (.plain (OpenSpec.ofChange hireSumsSpec)) hireSumsCard

/-- THE TIED CARD OF 'rentlaw1.HireBills'. -/
def hireBillsCard : Claim7 := { stood := { row := hireBillsRow, standIns := [], harness := (true, "c2d6ecc7009d5c02f258b052c0cb48efb704f5d3a1899cf98628420bd3bc5a53"), looks := false }, kinds := [], alts := [], laidByText := true, laidKinds := [.data, .pinned], laidTests := true, laidLooks := .later }
def HireBillsCardSaid : Prop := Claim7.holds Tryd.pinned (.plain (OpenSpec.ofChange hireBillsSpec)) hireBillsCard

/-- THE TIED CARD OF 'rentlaw1.HiresClash'. -/
def hiresClashCard : Claim7 := { stood := { row := hiresClashRow, standIns := [], harness := (true, "c2d6ecc7009d5c02f258b052c0cb48efb704f5d3a1899cf98628420bd3bc5a53"), looks := false }, kinds := [], alts := [], laidByText := true, laidKinds := [.data, .pinned], laidTests := true, laidLooks := .later }
def HiresClashCardSaid : Prop := Claim7.holds Tryd.pinned (.plain (OpenSpec.ofChange hiresClashSpec)) hiresClashCard

/-- THE TIED CARD OF 'rentlaw1.HiresAt'. -/
def hiresAtCard : Claim7 := { stood := { row := hiresAtRow, standIns := [], harness := (true, "c2d6ecc7009d5c02f258b052c0cb48efb704f5d3a1899cf98628420bd3bc5a53"), looks := false }, kinds := [], alts := [], laidByText := true, laidKinds := [.data, .pinned], laidTests := true, laidLooks := .later }
def HiresAtCardSaid : Prop := Claim7.holds Tryd.pinned (.plain (OpenSpec.ofChange hiresAtSpec)) hiresAtCard

/-- THE SECOND FORM's CARD OF 'rentlaw1.HireChecks'. -/
def hireChecksUptoCard : Claim7 := { stood := { row := hireChecksUptoRow, standIns := [], harness := (true, "c2d6ecc7009d5c02f258b052c0cb48efb704f5d3a1899cf98628420bd3bc5a53"), looks := false }, kinds := [], alts := [], laidByText := true, laidKinds := [.data, .pinned], laidTests := true, laidLooks := .later }
def HireChecksUptoCardSaid : Prop := Claim7.holds Tryd.pinned (.plain (OpenSpec.upto hireChecksSpec)) hireChecksUptoCard

/-- THE SECOND FORM's CARD OF 'rentlaw1.HireSums'. -/
def hireSumsUptoCard : Claim7 := { stood := { row := hireSumsUptoRow, standIns := [], harness := (true, "c2d6ecc7009d5c02f258b052c0cb48efb704f5d3a1899cf98628420bd3bc5a53"), looks := false }, kinds := [], alts := [], laidByText := true, laidKinds := [.data, .pinned], laidTests := true, laidLooks := .later }
def HireSumsUptoCardSaid : Prop := Claim7.holds Tryd.pinned (.plain (OpenSpec.upto hireSumsSpec)) hireSumsUptoCard

/-- THE SECOND FORM's CARD OF 'rentlaw1.HireBills'. -/
def hireBillsUptoCard : Claim7 := { stood := { row := hireBillsUptoRow, standIns := [], harness := (true, "c2d6ecc7009d5c02f258b052c0cb48efb704f5d3a1899cf98628420bd3bc5a53"), looks := false }, kinds := [], alts := [], laidByText := true, laidKinds := [.data, .pinned], laidTests := true, laidLooks := .later }
def HireBillsUptoCardSaid : Prop := Claim7.holds Tryd.pinned (.plain (OpenSpec.upto hireBillsSpec)) hireBillsUptoCard

/-- THE SECOND FORM's CARD OF 'rentlaw1.HiresClash'. -/
def hiresClashUptoCard : Claim7 := { stood := { row := hiresClashUptoRow, standIns := [], harness := (true, "c2d6ecc7009d5c02f258b052c0cb48efb704f5d3a1899cf98628420bd3bc5a53"), looks := false }, kinds := [], alts := [], laidByText := true, laidKinds := [.data, .pinned], laidTests := true, laidLooks := .later }
def HiresClashUptoCardSaid : Prop := Claim7.holds Tryd.pinned (.plain (OpenSpec.upto hiresClashSpec)) hiresClashUptoCard

/-- THE SECOND FORM's CARD OF 'rentlaw1.HiresAt'. -/
def hiresAtUptoCard : Claim7 := { stood := { row := hiresAtUptoRow, standIns := [], harness := (true, "c2d6ecc7009d5c02f258b052c0cb48efb704f5d3a1899cf98628420bd3bc5a53"), looks := false }, kinds := [], alts := [], laidByText := true, laidKinds := [.data, .pinned], laidTests := true, laidLooks := .later }
def HiresAtUptoCardSaid : Prop := Claim7.holds Tryd.pinned (.plain (OpenSpec.upto hiresAtSpec)) hiresAtUptoCard
end Rows
end Go.Proofs.YtpgamfoancomiaaDoor
