/-
  DERIVED. GIVEN WITH THE SEED: THE CARDS: each row of YtgofeigebldkiaaDoorRows.lean that lists a variable, with what it lists TIED to the program's text (the seventh form; the later family's looks); each row that meets fmt, with fmt's text TOLD by the authors' own Lean function (tested against real Go, not proved from fmt's source: count such statements apart). THE CARD IS WHAT COUNTS. Prove the row's statement (the work); the ties are given (YtgofeigebldkiaaDoorTie.lean); close each card by the builder's one call (the guide's Derived/Test/ToyasCard.lean, 'card_holds'). Laid BY PROGRAM, IN A SANDBOX (cutbox-door.mjs). By AI agents, Wed Nov 11 2026. No macro, syntax, notation, axiom, sorry.
-/
import Derived.Test.YtgofeigebldkiaaDoorRows
import GoSem.ClaimSeven
namespace Go.Proofs.YtgofeigebldkiaaDoor
namespace Rows

/-- THE TIED CARD OF 'rentlaw1.RateChecks'. -/
def rateChecksCard : Claim7 := { stood := { row := rateChecksRow, standIns := [], harness := (true, "9faf7c3c8b06513b84cce51ed6223abf346f7a5ff1d9e78a8415917ca267587d"), looks := false }, kinds := [], alts := [], laidByText := true, laidKinds := [.data, .pinned], laidTests := true, laidLooks := .later }
def RateChecksCardSaid : Prop := Claim7.holds Tryd.pinned (.plain (OpenSpec.ofChange rateChecksSpec)) rateChecksCard

/-- THE TIED CARD OF 'rentlaw1.PartsCost'. -/
def partsCostCard : Claim7 := { stood := { row := partsCostRow, standIns := [], harness := (true, "9faf7c3c8b06513b84cce51ed6223abf346f7a5ff1d9e78a8415917ca267587d"), looks := false }, kinds := [], alts := [], laidByText := true, laidKinds := [.data, .pinned], laidTests := true, laidLooks := .later }
def PartsCostCardSaid : Prop := Claim7.holds Tryd.pinned (.plain (OpenSpec.ofChange partsCostSpec)) partsCostCard

/-- THE TIED CARD OF 'rentlaw1.CodesTake'. -/
def codesTakeCard : Claim7 := { stood := { row := codesTakeRow, standIns := [], harness := (true, "9faf7c3c8b06513b84cce51ed6223abf346f7a5ff1d9e78a8415917ca267587d"), looks := false }, kinds := [], alts := [], laidByText := true, laidKinds := [.data, .pinned], laidTests := true, laidLooks := .later }
def CodesTakeCardSaid : Prop := Claim7.holds Tryd.pinned (.plain (OpenSpec.ofChange codesTakeSpec)) codesTakeCard

/-- THE TIED CARD OF 'rentlaw1.TaxesAdd'. -/
def taxesAddCard : Claim7 := { stood := { row := taxesAddRow, standIns := [], harness := (true, "9faf7c3c8b06513b84cce51ed6223abf346f7a5ff1d9e78a8415917ca267587d"), looks := false }, kinds := [], alts := [], laidByText := true, laidKinds := [.data, .pinned], laidTests := true, laidLooks := .later }
def TaxesAddCardSaid : Prop := Claim7.holds Tryd.pinned (.plain (OpenSpec.ofChange taxesAddSpec)) taxesAddCard

/-- THE SECOND FORM's CARD OF 'rentlaw1.RateChecks'. -/
def rateChecksUptoCard : Claim7 := { stood := { row := rateChecksUptoRow, standIns := [], harness := (true, "9faf7c3c8b06513b84cce51ed6223abf346f7a5ff1d9e78a8415917ca267587d"), looks := false }, kinds := [], alts := [], laidByText := true, laidKinds := [.data, .pinned], laidTests := true, laidLooks := .later }
def RateChecksUptoCardSaid : Prop := Claim7.holds Tryd.pinned (.plain (OpenSpec.upto rateChecksSpec)) rateChecksUptoCard

/-- THE SECOND FORM's CARD OF 'rentlaw1.PartsCost'. -/
def partsCostUptoCard : Claim7 := { stood := { row := partsCostUptoRow, standIns := [], harness := (true, "9faf7c3c8b06513b84cce51ed6223abf346f7a5ff1d9e78a8415917ca267587d"), looks := false }, kinds := [], alts := [], laidByText := true, laidKinds := [.data, .pinned], laidTests := true, laidLooks := .later }
def PartsCostUptoCardSaid : Prop := Claim7.holds Tryd.pinned (.plain (OpenSpec.upto partsCostSpec)) partsCostUptoCard

/-- THE SECOND FORM's CARD OF 'rentlaw1.CodesTake'. -/
def codesTakeUptoCard : Claim7 := { stood := { row := codesTakeUptoRow, standIns := [], harness := (true, "9faf7c3c8b06513b84cce51ed6223abf346f7a5ff1d9e78a8415917ca267587d"), looks := false }, kinds := [], alts := [], laidByText := true, laidKinds := [.data, .pinned], laidTests := true, laidLooks := .later }
def CodesTakeUptoCardSaid : Prop := Claim7.holds Tryd.pinned (.plain (OpenSpec.upto codesTakeSpec)) codesTakeUptoCard

/-- THE SECOND FORM's CARD OF 'rentlaw1.TaxesAdd'. -/
def taxesAddUptoCard : Claim7 := { stood := { row := taxesAddUptoRow, standIns := [], harness := (true, "9faf7c3c8b06513b84cce51ed6223abf346f7a5ff1d9e78a8415917ca267587d"), looks := false }, kinds := [], alts := [], laidByText := true, laidKinds := [.data, .pinned], laidTests := true, laidLooks := .later }
def TaxesAddUptoCardSaid : Prop := Claim7.holds Tryd.pinned (.plain (OpenSpec.upto taxesAddSpec)) taxesAddUptoCard
end Rows
end Go.Proofs.YtgofeigebldkiaaDoor
