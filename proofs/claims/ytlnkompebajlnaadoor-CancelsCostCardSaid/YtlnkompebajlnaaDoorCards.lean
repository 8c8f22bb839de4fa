/-
  DERIVED. GIVEN WITH THE SEED: THE CARDS: each row of YtlnkompebajlnaaDoorRows.lean that lists a variable, with what it lists TIED to the program's text (the seventh form; the later family's looks); each row that meets fmt, with fmt's text TOLD by the authors' own Lean function (tested against real Go, not proved from fmt's source: count such statements apart). THE CARD IS WHAT COUNTS. Prove the row's statement (the work); the ties are given (YtlnkompebajlnaaDoorTie.lean); close each card by the builder's one call (the guide's Derived/Test/ToyasCard.lean, 'card_holds'). Laid BY PROGRAM, IN A SANDBOX (cutbox-door.mjs). By AI agents, Wed Nov 11 2026. No macro, syntax, notation, axiom, sorry.
-/
import Derived.Test.YtlnkompebajlnaaDoorRows
import GoSem.ClaimSeven
namespace Go.Proofs.YtlnkompebajlnaaDoor
namespace Rows

/-- THE TIED CARD OF 'rentlaw1.OddsExact'. -/
def oddsExactCard : Claim7 := { stood := { row := oddsExactRow, standIns := [], harness := (true, "1d32227207d3c3e48abf8a7947b3d12a43c0ff787462a3e2ea7dc1582590aaa4"), looks := false }, kinds := [], alts := [], laidByText := true, laidKinds := [.data, .pinned], laidTests := true, laidLooks := .later }
def OddsExactCardSaid : Prop := Claim7.holds Tryd.pinned (.plain (OpenSpec.ofChange oddsExactSpec)) oddsExactCard

/-- THE TIED CARD OF 'rentlaw1.CancelsCost'. -/
def cancelsCostCard : Claim7 := { stood := { row := cancelsCostRow, standIns := [], harness := (true, "1d32227207d3c3e48abf8a7947b3d12a43c0ff787462a3e2ea7dc1582590aaa4"), looks := false }, kinds := [], alts := [], laidByText := true, laidKinds := [.data, .pinned], laidTests := true, laidLooks := .later }
def CancelsCostCardSaid : Prop := Claim7.holds Tryd.pinned (.plain (OpenSpec.ofChange cancelsCostSpec)) cancelsCostCard

/-- THE SECOND FORM's CARD OF 'rentlaw1.OddsExact'. -/
def oddsExactUptoCard : Claim7 := { stood := { row := oddsExactUptoRow, standIns := [], harness := (true, "1d32227207d3c3e48abf8a7947b3d12a43c0ff787462a3e2ea7dc1582590aaa4"), looks := false }, kinds := [], alts := [], laidByText := true, laidKinds := [.data, .pinned], laidTests := true, laidLooks := .later }
def OddsExactUptoCardSaid : Prop := Claim7.holds Tryd.pinned (.plain (OpenSpec.upto oddsExactSpec)) oddsExactUptoCard

/-- THE SECOND FORM's CARD OF 'rentlaw1.CancelsCost'. -/
def cancelsCostUptoCard : Claim7 := { stood := { row := cancelsCostUptoRow, standIns := [], harness := (true, "1d32227207d3c3e48abf8a7947b3d12a43c0ff787462a3e2ea7dc1582590aaa4"), looks := false }, kinds := [], alts := [], laidByText := true, laidKinds := [.data, .pinned], laidTests := true, laidLooks := .later }
def CancelsCostUptoCardSaid : Prop := Claim7.holds Tryd.pinned (.plain (OpenSpec.upto cancelsCostSpec)) cancelsCostUptoCard
end Rows
end Go.Proofs.YtlnkompebajlnaaDoor
