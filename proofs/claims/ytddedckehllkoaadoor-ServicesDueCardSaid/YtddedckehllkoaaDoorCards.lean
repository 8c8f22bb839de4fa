/-
  DERIVED. GIVEN WITH THE SEED: THE CARDS: each row of YtddedckehllkoaaDoorRows.lean that lists a variable, with what it lists TIED to the program's text (the seventh form; the later family's looks); each row that meets fmt, with fmt's text TOLD by the authors' own Lean function (tested against real Go, not proved from fmt's source: count such statements apart). THE CARD IS WHAT COUNTS. Prove the row's statement (the work); the ties are given (YtddedckehllkoaaDoorTie.lean); close each card by the builder's one call (the guide's Derived/Test/ToyasCard.lean, 'card_holds'). Laid BY PROGRAM, IN A SANDBOX (cutbox-door.mjs). By AI agents, Wed Nov 11 2026. No macro, syntax, notation, axiom, sorry.
-/
import Derived.Test.YtddedckehllkoaaDoorRows
import GoSem.ClaimSeven
namespace Go.Proofs.YtddedckehllkoaaDoor
namespace Rows

/-- THE TIED CARD OF 'rentlaw1.CancelsCost'. -/
def cancelsCostCard : Claim7 := { stood := { row := cancelsCostRow, standIns := [], harness := (true, "71f93c9ec3be7e7e12c877e7504eca57888e028a55cfdf2cb2830d57e90364c4"), looks := false }, kinds := [], alts := [], laidByText := true, laidKinds := [.data, .pinned], laidTests := true, laidLooks := .later }
def CancelsCostCardSaid : Prop := Claim7.holds Tryd.pinned (.plain (OpenSpec.ofChange cancelsCostSpec)) cancelsCostCard

/-- THE TIED CARD OF 'rentlaw1.RateChecks'. -/
def rateChecksCard : Claim7 := { stood := { row := rateChecksRow, standIns := [], harness := (true, "71f93c9ec3be7e7e12c877e7504eca57888e028a55cfdf2cb2830d57e90364c4"), looks := false }, kinds := [], alts := [], laidByText := true, laidKinds := [.data, .pinned], laidTests := true, laidLooks := .later }
def RateChecksCardSaid : Prop := Claim7.holds Tryd.pinned (.plain (OpenSpec.ofChange rateChecksSpec)) rateChecksCard

/-- THE TIED CARD OF 'rentlaw1.PartsCost'. -/
def partsCostCard : Claim7 := { stood := { row := partsCostRow, standIns := [], harness := (true, "71f93c9ec3be7e7e12c877e7504eca57888e028a55cfdf2cb2830d57e90364c4"), looks := false }, kinds := [], alts := [], laidByText := true, laidKinds := [.data, .pinned], laidTests := true, laidLooks := .later }
def PartsCostCardSaid : Prop := Claim7.holds Tryd.pinned (.plain (OpenSpec.ofChange partsCostSpec)) partsCostCard

/-- THE TIED CARD OF 'rentlaw1.CodesTake'. -/
def codesTakeCard : Claim7 := { stood := { row := codesTakeRow, standIns := [], harness := (true, "71f93c9ec3be7e7e12c877e7504eca57888e028a55cfdf2cb2830d57e90364c4"), looks := false }, kinds := [], alts := [], laidByText := true, laidKinds := [.data, .pinned], laidTests := true, laidLooks := .later }
def CodesTakeCardSaid : Prop := Claim7.holds Tryd.pinned (.plain (OpenSpec.ofChange codesTakeSpec)) codesTakeCard

/-- THE TIED CARD OF 'rentlaw2.ServicesDue'. -/
def servicesDueCard : Claim7 := { stood := { row := servicesDueRow, standIns := [], harness := (true, "71f93c9ec3be7e7e12c877e7504eca57888e028a55cfdf2cb2830d57e90364c4"), looks := false }, kinds := [], alts := [], laidByText := true, laidKinds := [.data, .pinned], laidTests := true, laidLooks := .later }
def ServicesDueCardSaid : Prop := Claim7.holds Tryd.pinned (.plain (OpenSpec.ofChange servicesDueSpec)) servicesDueCard

/-- THE SECOND FORM's CARD OF 'rentlaw1.CancelsCost'. -/
def cancelsCostUptoCard : Claim7 := { stood := { row := cancelsCostUptoRow, standIns := [], harness := (true, "71f93c9ec3be7e7e12c877e7504eca57888e028a55cfdf2cb2830d57e90364c4"), looks := false }, kinds := [], alts := [], laidByText := true, laidKinds := [.data, .pinned], laidTests := true, laidLooks := .later }
def CancelsCostUptoCardSaid : Prop := Claim7.holds Tryd.pinned (.plain (OpenSpec.upto cancelsCostSpec)) cancelsCostUptoCard

/-- THE SECOND FORM's CARD OF 'rentlaw1.RateChecks'. -/
def rateChecksUptoCard : Claim7 := { stood := { row := rateChecksUptoRow, standIns := [], harness := (true, "71f93c9ec3be7e7e12c877e7504eca57888e028a55cfdf2cb2830d57e90364c4"), looks := false }, kinds := [], alts := [], laidByText := true, laidKinds := [.data, .pinned], laidTests := true, laidLooks := .later }
def RateChecksUptoCardSaid : Prop := Claim7.holds Tryd.pinned (.plain (OpenSpec.upto rateChecksSpec)) rateChecksUptoCard

/-- THE SECOND FORM's CARD OF 'rentlaw1.PartsCost'. -/
def partsCostUptoCard : Claim7 := { stood := { row := partsCostUptoRow, standIns := [], harness := (true, "71f93c9ec3be7e7e12c877e7504eca57888e028a55cfdf2cb2830d57e90364c4"), looks := false }, kinds := [], alts := [], laidByText := true, laidKinds := [.data, .pinned], laidTests := true, laidLooks := .later }
def PartsCostUptoCardSaid : Prop := Claim7.holds Tryd.pinned (.plain (OpenSpec.upto partsCostSpec)) partsCostUptoCard

/-- THE SECOND FORM's CARD OF 'rentlaw1.CodesTake'. -/
def codesTakeUptoCard : Claim7 := { stood := { row := codesTakeUptoRow, standIns := [], harness := (true, "71f93c9ec3be7e7e12c877e7504eca57888e028a55cfdf2cb2830d57e90364c4"), looks := false }, kinds := [], alts := [], laidByText := true, laidKinds := [.data, .pinned], laidTests := true, laidLooks := .later }
def CodesTakeUptoCardSaid : Prop := Claim7.holds Tryd.pinned (.plain (OpenSpec.upto codesTakeSpec)) codesTakeUptoCard

/-- THE SECOND FORM's CARD OF 'rentlaw2.ServicesDue'. -/
def servicesDueUptoCard : Claim7 := { stood := { row := servicesDueUptoRow, standIns := [], harness := (true, "71f93c9ec3be7e7e12c877e7504eca57888e028a55cfdf2cb2830d57e90364c4"), looks := false }, kinds := [], alts := [], laidByText := true, laidKinds := [.data, .pinned], laidTests := true, laidLooks := .later }
def ServicesDueUptoCardSaid : Prop := Claim7.holds Tryd.pinned (.plain (OpenSpec.upto servicesDueSpec)) servicesDueUptoCard
end Rows
end Go.Proofs.YtddedckehllkoaaDoor
