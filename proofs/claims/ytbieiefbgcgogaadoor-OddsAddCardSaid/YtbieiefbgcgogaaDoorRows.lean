/-
  NARROWER THAN 'FOR EVERY INPUT', by the rows' own cells (each row's printed sentence says how): OddsExact: laid · HireStarts: laid · DriversMay: laid · TaxesAdd: laid · OddsAdd: laid.
  DERIVED. THE GIVEN ROWS OF THIS SEAT. 5 by the template 'for every input the law returns true; each argument reads behind the call as it read before'; 0 by the template 'total and deterministic' (their statements: YtbieiefbgcgogaaDoorTotals.lean).
  GIVEN WITH THE SEED: the statements are not yours to turn. If you find one false, say at which input.
  Laid BY PROGRAM, IN A SANDBOX (cutbox-rows.mjs): the forced cells as the released guide's own fill.sh prints them over the translation 2bfe1ef5ea367cda… (all of the seat's roots in one cut). By AI agents, Wed Nov 11 2026. No macro, syntax, notation, axiom, sorry.
-/
import Derived.Test.YtbieiefbgcgogaaDoorChecked
import GoSem.PinnedTables
import GoSem.Claim
import GoSem.ClaimJoined
import GoSem.ClaimMapViews
import Derived.JoinedTies
import Derived.KernelRfl
namespace Go.Proofs.YtbieiefbgcgogaaDoor
/- THE CELL 'sum', in the pinned program and in every row, IS THE sha256 OF THE DUMP (.gsa) THAT YtbieiefbgcgogaaDoorProg.lean LOADS. Nothing in Lean hashes anything: it is a label: what it is worth is what the hold of that sum in a sandbox is worth. -/
noncomputable def Tryd.pinned : Pinned := { name := "ytbieiefbgcgogaadoor", sum := "2bfe1ef5ea367cdab56f7bd26f5e3408536c35cb3d65dd75bb9c1f219d3b9490", checked := Tryd.checked }
namespace Rows
def none {H : Type} : Left H := { results := [], args := [] }

/- WHAT THE LISTED PACKAGE-LEVEL VARIABLES READ AS WHEN THE CALL BEGINS. Each datum BY PROGRAM (the guide's laid-datum.mjs) off the statement by which the dump's own 'gosem.cut.vars' lays the variable. In a bare row this is a premise. The card (YtbieiefbgcgogaaDoorCards.lean) ties it to the program's text. -/
def laid_unicode_utf8_acceptRanges {H : Type} : DataW H := .agg [.agg [.lit (.int .u8 128), .lit (.int .u8 191)], .agg [.lit (.int .u8 160), .lit (.int .u8 191)], .agg [.lit (.int .u8 128), .lit (.int .u8 159)], .agg [.lit (.int .u8 144), .lit (.int .u8 191)], .agg [.lit (.int .u8 128), .lit (.int .u8 143)], .agg [.lit (.int .u8 0), .lit (.int .u8 0)], .agg [.lit (.int .u8 0), .lit (.int .u8 0)], .agg [.lit (.int .u8 0), .lit (.int .u8 0)], .agg [.lit (.int .u8 0), .lit (.int .u8 0)], .agg [.lit (.int .u8 0), .lit (.int .u8 0)], .agg [.lit (.int .u8 0), .lit (.int .u8 0)], .agg [.lit (.int .u8 0), .lit (.int .u8 0)], .agg [.lit (.int .u8 0), .lit (.int .u8 0)], .agg [.lit (.int .u8 0), .lit (.int .u8 0)], .agg [.lit (.int .u8 0), .lit (.int .u8 0)], .agg [.lit (.int .u8 0), .lit (.int .u8 0)]]
/-- One of Go's own tables, pinned by name: the form's constant. -/
def laid_unicode_utf8_first : DataW Unit := Go.Pinned.utf8First

/-- 'rentlaw1.OddsExact': WHATEVER THE INPUT: true; the input reads as it did. -/
def oddsExactSpec : ChangeSpec := { name := "oddsExact", fn := fun _ => fun
  | [d] => { results := [.lit (.bool true)], args := [d] }
  | _ => none }
def oddsExactRow : OpenClaim := { program := "ytbieiefbgcgogaadoor", sum := "2bfe1ef5ea367cdab56f7bd26f5e3408536c35cb3d65dd75bb9c1f219d3b9490", func := "forecourt/rentlaw1.OddsExact", spec := "oddsExact", inPlace := ["internal/bytealg.IndexByteString", "internal/bytealg.IndexString"], named := ["unicode/utf8.first", "unicode/utf8.acceptRanges", "internal/bytealg.MaxLen"], apart := false, laid := [("unicode/utf8.acceptRanges", laid_unicode_utf8_acceptRanges), ("unicode/utf8.first", laid_unicode_utf8_first)] }
def OddsExactSaid : Prop := oddsExactRow.holds Tryd.pinned (OpenSpec.ofChange oddsExactSpec)

/-- ITS FALSE NEIGHBOUR: 'it returns false'. Refute it at one input. -/
def oddsExactWrong : ChangeSpec := { name := "oddsExact", fn := fun _ => fun
  | [d] => { results := [.lit (.bool false)], args := [d] }
  | _ => none }
def OddsExactWrongFalsely : Prop := oddsExactRow.holds Tryd.pinned (OpenSpec.ofChange oddsExactWrong)

/-- 'rentlaw1.HireStarts': WHATEVER THE INPUT: true; the input reads as it did. -/
def hireStartsSpec : ChangeSpec := { name := "hireStarts", fn := fun _ => fun
  | [d] => { results := [.lit (.bool true)], args := [d] }
  | _ => none }
def hireStartsRow : OpenClaim := { program := "ytbieiefbgcgogaadoor", sum := "2bfe1ef5ea367cdab56f7bd26f5e3408536c35cb3d65dd75bb9c1f219d3b9490", func := "forecourt/rentlaw1.HireStarts", spec := "hireStarts", inPlace := ["internal/bytealg.IndexByteString", "internal/bytealg.IndexString"], named := ["unicode/utf8.first", "unicode/utf8.acceptRanges", "internal/bytealg.MaxLen"], apart := false, laid := [("unicode/utf8.acceptRanges", laid_unicode_utf8_acceptRanges), ("unicode/utf8.first", laid_unicode_utf8_first)] }
def HireStartsSaid : Prop := hireStartsRow.holds Tryd.pinned (OpenSpec.ofChange hireStartsSpec)

/-- ITS FALSE NEIGHBOUR: 'it returns false'. Refute it at one input. -/
def hireStartsWrong : ChangeSpec := { name := "hireStarts", fn := fun _ => fun
  | [d] => { results := [.lit (.bool false)], args := [d] }
  | _ => none }
def HireStartsWrongFalsely : Prop := hireStartsRow.holds Tryd.pinned (OpenSpec.ofChange hireStartsWrong)

/-- 'rentlaw1.DriversMay': WHATEVER THE INPUT: true; the input reads as it did. -/
def driversMaySpec : ChangeSpec := { name := "driversMay", fn := fun _ => fun
  | [d] => { results := [.lit (.bool true)], args := [d] }
  | _ => none }
def driversMayRow : OpenClaim := { program := "ytbieiefbgcgogaadoor", sum := "2bfe1ef5ea367cdab56f7bd26f5e3408536c35cb3d65dd75bb9c1f219d3b9490", func := "forecourt/rentlaw1.DriversMay", spec := "driversMay", inPlace := ["internal/bytealg.IndexByteString", "internal/bytealg.IndexString"], unfollowed := true, recurses := true, named := ["unicode/utf8.first", "unicode/utf8.acceptRanges", "internal/bytealg.MaxLen"], apart := false, laid := [("unicode/utf8.acceptRanges", laid_unicode_utf8_acceptRanges), ("unicode/utf8.first", laid_unicode_utf8_first)] }
def DriversMaySaid : Prop := driversMayRow.holds Tryd.pinned (OpenSpec.ofChange driversMaySpec)

/-- ITS FALSE NEIGHBOUR: 'it returns false'. Refute it at one input. -/
def driversMayWrong : ChangeSpec := { name := "driversMay", fn := fun _ => fun
  | [d] => { results := [.lit (.bool false)], args := [d] }
  | _ => none }
def DriversMayWrongFalsely : Prop := driversMayRow.holds Tryd.pinned (OpenSpec.ofChange driversMayWrong)

/-- 'rentlaw1.TaxesAdd': WHATEVER THE INPUT: true; the input reads as it did. -/
def taxesAddSpec : ChangeSpec := { name := "taxesAdd", fn := fun _ => fun
  | [d] => { results := [.lit (.bool true)], args := [d] }
  | _ => none }
def taxesAddRow : OpenClaim := { program := "ytbieiefbgcgogaadoor", sum := "2bfe1ef5ea367cdab56f7bd26f5e3408536c35cb3d65dd75bb9c1f219d3b9490", func := "forecourt/rentlaw1.TaxesAdd", spec := "taxesAdd", inPlace := ["internal/bytealg.IndexByteString", "internal/bytealg.IndexString", "internal/bytealg.abigen_runtime_cmpstring"], unfollowed := true, recurses := true, named := ["unicode/utf8.first", "unicode/utf8.acceptRanges", "internal/bytealg.MaxLen"], apart := false, laid := [("unicode/utf8.acceptRanges", laid_unicode_utf8_acceptRanges), ("unicode/utf8.first", laid_unicode_utf8_first)] }
def TaxesAddSaid : Prop := taxesAddRow.holds Tryd.pinned (OpenSpec.ofChange taxesAddSpec)

/-- ITS FALSE NEIGHBOUR: 'it returns false'. Refute it at one input. -/
def taxesAddWrong : ChangeSpec := { name := "taxesAdd", fn := fun _ => fun
  | [d] => { results := [.lit (.bool false)], args := [d] }
  | _ => none }
def TaxesAddWrongFalsely : Prop := taxesAddRow.holds Tryd.pinned (OpenSpec.ofChange taxesAddWrong)

/-- 'rentkeep1.OddsAdd': WHATEVER THE INPUT: true; the input reads as it did. -/
def oddsAddSpec : ChangeSpec := { name := "oddsAdd", fn := fun _ => fun
  | [d] => { results := [.lit (.bool true)], args := [d] }
  | _ => none }
def oddsAddRow : OpenClaim := { program := "ytbieiefbgcgogaadoor", sum := "2bfe1ef5ea367cdab56f7bd26f5e3408536c35cb3d65dd75bb9c1f219d3b9490", func := "forecourt/rentkeep1.OddsAdd", spec := "oddsAdd", inPlace := ["internal/bytealg.IndexByteString", "internal/bytealg.IndexString"], named := ["unicode/utf8.first", "unicode/utf8.acceptRanges", "internal/bytealg.MaxLen"], apart := false, laid := [("unicode/utf8.acceptRanges", laid_unicode_utf8_acceptRanges), ("unicode/utf8.first", laid_unicode_utf8_first)] }
def OddsAddSaid : Prop := oddsAddRow.holds Tryd.pinned (OpenSpec.ofChange oddsAddSpec)

/-- ITS FALSE NEIGHBOUR: 'it returns false'. Refute it at one input. -/
def oddsAddWrong : ChangeSpec := { name := "oddsAdd", fn := fun _ => fun
  | [d] => { results := [.lit (.bool false)], args := [d] }
  | _ => none }
def OddsAddWrongFalsely : Prop := oddsAddRow.holds Tryd.pinned (OpenSpec.ofChange oddsAddWrong)

/- THE SECOND FORM. 'bulk': how many values and letters a reading holds, each counted each time it is reached (what is shared counts as often as it is met; a slice's spare places count too). A statement '..UptoSaid' is the law's where the arguments, and the package variables that the reading takes, are together of bulk at most 1048576: NARROWER than '..Said'. Prove '..Said' where nothing that the law and all that it calls make is longer than what came in: it says more and counts as full. Else prove '..UptoSaid'. A law counts once. -/
mutual
def uptoBulk {H : Type} : DataW H → Nat
  | .lit (.string bytes) => bytes.length + 1
  | .lit _ => 1
  | .nil => 1
  | .ptr d => uptoBulk d + 1
  | .slice elems spare => uptoBulkAll elems + uptoBulkAll spare + 1
  | .agg parts => uptoBulkAll parts + 1
  | .iface _ d => uptoBulk d + 1
  | .map entries => uptoBulkEntries entries + 1
  | .held _ => 1
def uptoBulkAll {H : Type} : List (DataW H) → Nat
  | [] => 0
  | d :: r => uptoBulk d + uptoBulkAll r
def uptoBulkEntries {H : Type} : List (Lit × DataW H) → Nat
  | [] => 0
  | x :: r => uptoBulkEntry x + uptoBulkEntries r
def uptoBulkEntry {H : Type} : Lit × DataW H → Nat
  | (.string bytes, d) => bytes.length + uptoBulk d + 1
  | (_, d) => uptoBulk d + 1
 end
def uptoSmall : (H : Type) → List (DataW H) → Bool := fun _ ds => decide (uptoBulkAll ds ≤ 1048576)
def OpenSpec.upto (s : _root_.Go.ChangeSpec) : _root_.Go.OpenSpec := { _root_.Go.OpenSpec.ofChange s with cond := some uptoSmall }

/-- 'rentlaw1.OddsExact', WHERE WHAT IT READS IS OF BULK AT MOST 1048576: true; the input reads as it did. -/
def oddsExactUptoRow : OpenClaim := { program := "ytbieiefbgcgogaadoor", sum := "2bfe1ef5ea367cdab56f7bd26f5e3408536c35cb3d65dd75bb9c1f219d3b9490", func := "forecourt/rentlaw1.OddsExact", spec := "oddsExact", inPlace := ["internal/bytealg.IndexByteString", "internal/bytealg.IndexString"], named := ["unicode/utf8.first", "unicode/utf8.acceptRanges", "internal/bytealg.MaxLen"], apart := false, laid := [("unicode/utf8.acceptRanges", laid_unicode_utf8_acceptRanges), ("unicode/utf8.first", laid_unicode_utf8_first)], narrowed := true }
def OddsExactUptoSaid : Prop := oddsExactUptoRow.holds Tryd.pinned (OpenSpec.upto oddsExactSpec)

/-- 'rentlaw1.HireStarts', WHERE WHAT IT READS IS OF BULK AT MOST 1048576: true; the input reads as it did. -/
def hireStartsUptoRow : OpenClaim := { program := "ytbieiefbgcgogaadoor", sum := "2bfe1ef5ea367cdab56f7bd26f5e3408536c35cb3d65dd75bb9c1f219d3b9490", func := "forecourt/rentlaw1.HireStarts", spec := "hireStarts", inPlace := ["internal/bytealg.IndexByteString", "internal/bytealg.IndexString"], named := ["unicode/utf8.first", "unicode/utf8.acceptRanges", "internal/bytealg.MaxLen"], apart := false, laid := [("unicode/utf8.acceptRanges", laid_unicode_utf8_acceptRanges), ("unicode/utf8.first", laid_unicode_utf8_first)], narrowed := true }
def HireStartsUptoSaid : Prop := hireStartsUptoRow.holds Tryd.pinned (OpenSpec.upto hireStartsSpec)

/-- 'rentlaw1.DriversMay', WHERE WHAT IT READS IS OF BULK AT MOST 1048576: true; the input reads as it did. -/
def driversMayUptoRow : OpenClaim := { program := "ytbieiefbgcgogaadoor", sum := "2bfe1ef5ea367cdab56f7bd26f5e3408536c35cb3d65dd75bb9c1f219d3b9490", func := "forecourt/rentlaw1.DriversMay", spec := "driversMay", inPlace := ["internal/bytealg.IndexByteString", "internal/bytealg.IndexString"], unfollowed := true, recurses := true, named := ["unicode/utf8.first", "unicode/utf8.acceptRanges", "internal/bytealg.MaxLen"], apart := false, laid := [("unicode/utf8.acceptRanges", laid_unicode_utf8_acceptRanges), ("unicode/utf8.first", laid_unicode_utf8_first)], narrowed := true }
def DriversMayUptoSaid : Prop := driversMayUptoRow.holds Tryd.pinned (OpenSpec.upto driversMaySpec)

/-- 'rentlaw1.TaxesAdd', WHERE WHAT IT READS IS OF BULK AT MOST 1048576: true; the input reads as it did. -/
def taxesAddUptoRow : OpenClaim := { program := "ytbieiefbgcgogaadoor", sum := "2bfe1ef5ea367cdab56f7bd26f5e3408536c35cb3d65dd75bb9c1f219d3b9490", func := "forecourt/rentlaw1.TaxesAdd", spec := "taxesAdd", inPlace := ["internal/bytealg.IndexByteString", "internal/bytealg.IndexString", "internal/bytealg.abigen_runtime_cmpstring"], unfollowed := true, recurses := true, named := ["unicode/utf8.first", "unicode/utf8.acceptRanges", "internal/bytealg.MaxLen"], apart := false, laid := [("unicode/utf8.acceptRanges", laid_unicode_utf8_acceptRanges), ("unicode/utf8.first", laid_unicode_utf8_first)], narrowed := true }
def TaxesAddUptoSaid : Prop := taxesAddUptoRow.holds Tryd.pinned (OpenSpec.upto taxesAddSpec)

/-- 'rentkeep1.OddsAdd', WHERE WHAT IT READS IS OF BULK AT MOST 1048576: true; the input reads as it did. -/
def oddsAddUptoRow : OpenClaim := { program := "ytbieiefbgcgogaadoor", sum := "2bfe1ef5ea367cdab56f7bd26f5e3408536c35cb3d65dd75bb9c1f219d3b9490", func := "forecourt/rentkeep1.OddsAdd", spec := "oddsAdd", inPlace := ["internal/bytealg.IndexByteString", "internal/bytealg.IndexString"], named := ["unicode/utf8.first", "unicode/utf8.acceptRanges", "internal/bytealg.MaxLen"], apart := false, laid := [("unicode/utf8.acceptRanges", laid_unicode_utf8_acceptRanges), ("unicode/utf8.first", laid_unicode_utf8_first)], narrowed := true }
def OddsAddUptoSaid : Prop := oddsAddUptoRow.holds Tryd.pinned (OpenSpec.upto oddsAddSpec)

end Rows
end Go.Proofs.YtbieiefbgcgogaaDoor
