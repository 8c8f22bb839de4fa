/-
  DERIVED. GIVEN WITH THE SEED: THE CARDS: each row of YtbddcbbjmgepnaaDoorRows.lean that lists a variable, with what it lists TIED to the program's text (the seventh form; the later family's looks); each row that meets fmt, with fmt's text TOLD by the authors' own Lean function (tested against real Go, not proved from fmt's source: count such statements apart). THE CARD IS WHAT COUNTS. Prove the row's statement (the work); the ties are given (YtbddcbbjmgepnaaDoorTie.lean); close each card by the builder's one call (the guide's Derived/Test/ToyasCard.lean, 'card_holds'). Laid BY PROGRAM, IN A SANDBOX (cutbox-door.mjs). By AI agents, Wed Nov 11 2026. No macro, syntax, notation, axiom, sorry.
-/
import Derived.Test.YtbddcbbjmgepnaaDoorRows
import GoSem.ClaimSeven
namespace Go.Proofs.YtbddcbbjmgepnaaDoor
namespace Rows

/-- THE TIED CARD OF 'rentlaw1.StationHours'. -/
def stationHoursCard : Claim7 := { stood := { row := stationHoursRow, standIns := [], harness := (true, "fa67412524195a9c4f15cae773d543b41e76134d18d0ae1ead5bd19f2a41c12e"), looks := false }, kinds := [], alts := [], laidByText := true, laidKinds := [.data, .data, .pinned], laidTests := true, laidLooks := .later }
def StationHoursCardSaid : Prop := Claim7.holds Tryd.pinned (.plain (OpenSpec.ofChange stationHoursSpec)) stationHoursCard

/-- THE TIED CARD OF 'rentkeep1.OddsAdd'. -/
def oddsAddCard : Claim7 := { stood := { row := oddsAddRow, standIns := [], harness := (true, "fa67412524195a9c4f15cae773d543b41e76134d18d0ae1ead5bd19f2a41c12e"), looks := false }, kinds := [], alts := [], laidByText := true, laidKinds := [.data, .pinned], laidTests := true, laidLooks := .later }
def OddsAddCardSaid : Prop := Claim7.holds Tryd.pinned (.plain (OpenSpec.ofChange oddsAddSpec)) oddsAddCard

/-- THE SECOND FORM's CARD OF 'rentlaw1.StationHours'. -/
def stationHoursUptoCard : Claim7 := { stood := { row := stationHoursUptoRow, standIns := [], harness := (true, "fa67412524195a9c4f15cae773d543b41e76134d18d0ae1ead5bd19f2a41c12e"), looks := false }, kinds := [], alts := [], laidByText := true, laidKinds := [.data, .data, .pinned], laidTests := true, laidLooks := .later }
def StationHoursUptoCardSaid : Prop := Claim7.holds Tryd.pinned (.plain (OpenSpec.upto stationHoursSpec)) stationHoursUptoCard

/-- THE SECOND FORM's CARD OF 'rentkeep1.OddsAdd'. -/
def oddsAddUptoCard : Claim7 := { stood := { row := oddsAddUptoRow, standIns := [], harness := (true, "fa67412524195a9c4f15cae773d543b41e76134d18d0ae1ead5bd19f2a41c12e"), looks := false }, kinds := [], alts := [], laidByText := true, laidKinds := [.data, .pinned], laidTests := true, laidLooks := .later }
def OddsAddUptoCardSaid : Prop := Claim7.holds Tryd.pinned (.plain (OpenSpec.upto oddsAddSpec)) oddsAddUptoCard
end Rows
end Go.Proofs.YtbddcbbjmgepnaaDoor
