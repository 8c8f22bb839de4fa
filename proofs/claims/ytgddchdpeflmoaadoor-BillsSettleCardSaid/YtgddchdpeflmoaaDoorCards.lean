/-
  DERIVED. GIVEN WITH THE SEED: THE CARDS: each row of YtgddchdpeflmoaaDoorRows.lean that lists a variable, with what it lists TIED to the program's text (the seventh form; the later family's looks); each row that meets fmt, with fmt's text TOLD by the authors' own Lean function (tested against real Go, not proved from fmt's source: count such statements apart). THE CARD IS WHAT COUNTS. Prove the row's statement (the work); the ties are given (YtgddchdpeflmoaaDoorTie.lean); close each card by the builder's one call (the guide's Derived/Test/ToyasCard.lean, 'card_holds'). Laid BY PROGRAM, IN A SANDBOX (cutbox-door.mjs). By AI agents, Wed Nov 11 2026. No macro, syntax, notation, axiom, sorry.
-/
import Derived.Test.YtgddchdpeflmoaaDoorRows
import GoSem.ClaimSeven
namespace Go.Proofs.YtgddchdpeflmoaaDoor
namespace Rows

/-- THE TIED CARD OF 'rentkeep1.BillsSettle'. -/
def billsSettleCard : Claim7 := { stood := { row := billsSettleRow, standIns := [], harness := (true, "2167dd7cd478e45f0e06d74decde2adc9391cbbd1987800a8ee565076875a2c0"), looks := false }, kinds := [], alts := [], laidByText := true, laidKinds := [.data, .pinned], laidTests := true, laidLooks := .later }
def BillsSettleCardSaid : Prop := Claim7.holds Tryd.pinned (.plain (OpenSpec.ofChange billsSettleSpec)) billsSettleCard

/-- THE SECOND FORM's CARD OF 'rentkeep1.BillsSettle'. -/
def billsSettleUptoCard : Claim7 := { stood := { row := billsSettleUptoRow, standIns := [], harness := (true, "2167dd7cd478e45f0e06d74decde2adc9391cbbd1987800a8ee565076875a2c0"), looks := false }, kinds := [], alts := [], laidByText := true, laidKinds := [.data, .pinned], laidTests := true, laidLooks := .later }
def BillsSettleUptoCardSaid : Prop := Claim7.holds Tryd.pinned (.plain (OpenSpec.upto billsSettleSpec)) billsSettleUptoCard
end Rows
end Go.Proofs.YtgddchdpeflmoaaDoor
