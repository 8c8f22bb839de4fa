/-
  NARROWER THAN 'FOR EVERY INPUT', by the rows' own cells (each row's printed sentence says how): CancelsCost: laid · HireStarts: laid · DriversMay: laid · RateChecks: laid · CodesTake: laid · PlacesCheck: laid · BillsSettle: laid.
  DERIVED. THE GIVEN ROWS OF THIS SEAT. 7 by the template 'for every input the law returns true; each argument reads behind the call as it read before'; 0 by the template 'total and deterministic' (their statements: YtndeidcddlmhbaaDoorTotals.lean).
  GIVEN WITH THE SEED: the statements are not yours to turn. If you find one false, say at which input.
  Laid BY PROGRAM, IN A SANDBOX (cutbox-rows.mjs): the forced cells as the released guide's own fill.sh prints them over the translation 80b6995f0ec1cd99… (all of the seat's roots in one cut). By AI agents, Wed Nov 11 2026. No macro, syntax, notation, axiom, sorry.
-/
import Derived.Test.YtndeidcddlmhbaaDoorChecked
import GoSem.PinnedTables
import GoSem.Claim
import GoSem.ClaimJoined
import GoSem.ClaimMapViews
import Derived.JoinedTies
import Derived.KernelRfl
namespace Go.Proofs.YtndeidcddlmhbaaDoor
/- THE CELL 'sum', in the pinned program and in every row, IS THE sha256 OF THE DUMP (.gsa) THAT YtndeidcddlmhbaaDoorProg.lean LOADS. Nothing in Lean hashes anything: it is a label: what it is worth is what the hold of that sum in a sandbox is worth. -/
noncomputable def Tryd.pinned : Pinned := { name := "ytndeidcddlmhbaadoor", sum := "80b6995f0ec1cd995fb490d0a46efea5379f0f383903cba6c66779edd9d5703c", checked := Tryd.checked }
namespace Rows
def none {H : Type} : Left H := { results := [], args := [] }

/- WHAT THE LISTED PACKAGE-LEVEL VARIABLES READ AS WHEN THE CALL BEGINS. Each datum BY PROGRAM (the guide's laid-datum.mjs) off the statement by which the dump's own 'gosem.cut.vars' lays the variable. In a bare row this is a premise. The card (YtndeidcddlmhbaaDoorCards.lean) ties it to the program's text. -/
def laid_unicode_utf8_acceptRanges {H : Type} : DataW H := .agg [.agg [.lit (.int .u8 128), .lit (.int .u8 191)], .agg [.lit (.int .u8 160), .lit (.int .u8 191)], .agg [.lit (.int .u8 128), .lit (.int .u8 159)], .agg [.lit (.int .u8 144), .lit (.int .u8 191)], .agg [.lit (.int .u8 128), .lit (.int .u8 143)], .agg [.lit (.int .u8 0), .lit (.int .u8 0)], .agg [.lit (.int .u8 0), .lit (.int .u8 0)], .agg [.lit (.int .u8 0), .lit (.int .u8 0)], .agg [.lit (.int .u8 0), .lit (.int .u8 0)], .agg [.lit (.int .u8 0), .lit (.int .u8 0)], .agg [.lit (.int .u8 0), .lit (.int .u8 0)], .agg [.lit (.int .u8 0), .lit (.int .u8 0)], .agg [.lit (.int .u8 0), .lit (.int .u8 0)], .agg [.lit (.int .u8 0), .lit (.int .u8 0)], .agg [.lit (.int .u8 0), .lit (.int .u8 0)], .agg [.lit (.int .u8 0), .lit (.int .u8 0)]]
/-- One of Go's own tables, pinned by name: the form's constant. -/
def laid_unicode_utf8_first : DataW Unit := Go.Pinned.utf8First

/-- 'rentlaw1.CancelsCost': WHATEVER THE INPUT: true; the input reads as it did. -/
def cancelsCostSpec : ChangeSpec := { name := "cancelsCost", fn := fun _ => fun
  | [d] => { results := [.lit (.bool true)], args := [d] }
  | _ => none }
def cancelsCostRow : OpenClaim := { program := "ytndeidcddlmhbaadoor", sum := "80b6995f0ec1cd995fb490d0a46efea5379f0f383903cba6c66779edd9d5703c", func := "forecourt/rentlaw1.CancelsCost", spec := "cancelsCost", inPlace := ["internal/bytealg.IndexByteString", "internal/bytealg.IndexString"], named := ["unicode/utf8.first", "unicode/utf8.acceptRanges", "internal/bytealg.MaxLen"], apart := false, laid := [("unicode/utf8.acceptRanges", laid_unicode_utf8_acceptRanges), ("unicode/utf8.first", laid_unicode_utf8_first)] }
def CancelsCostSaid : Prop := cancelsCostRow.holds Tryd.pinned (OpenSpec.ofChange cancelsCostSpec)

/-- ITS FALSE NEIGHBOUR: 'it returns false'. Refute it at one input. -/
def cancelsCostWrong : ChangeSpec := { name := "cancelsCost", fn := fun _ => fun
  | [d] => { results := [.lit (.bool false)], args := [d] }
  | _ => none }
def CancelsCostWrongFalsely : Prop := cancelsCostRow.holds Tryd.pinned (OpenSpec.ofChange cancelsCostWrong)

/-- 'rentlaw1.HireStarts': WHATEVER THE INPUT: true; the input reads as it did. -/
def hireStartsSpec : ChangeSpec := { name := "hireStarts", fn := fun _ => fun
  | [d] => { results := [.lit (.bool true)], args := [d] }
  | _ => none }
def hireStartsRow : OpenClaim := { program := "ytndeidcddlmhbaadoor", sum := "80b6995f0ec1cd995fb490d0a46efea5379f0f383903cba6c66779edd9d5703c", func := "forecourt/rentlaw1.HireStarts", spec := "hireStarts", inPlace := ["internal/bytealg.IndexByteString", "internal/bytealg.IndexString"], named := ["unicode/utf8.first", "unicode/utf8.acceptRanges", "internal/bytealg.MaxLen"], apart := false, laid := [("unicode/utf8.acceptRanges", laid_unicode_utf8_acceptRanges), ("unicode/utf8.first", laid_unicode_utf8_first)] }
def HireStartsSaid : Prop := hireStartsRow.holds Tryd.pinned (OpenSpec.ofChange hireStartsSpec)

/-- ITS FALSE NEIGHBOUR: 'it returns false'. Refute it at one input. -/
def hireStartsWrong : ChangeSpec := { name := "hireStarts", fn := fun _ => fun
  | [d] => { results := [.lit (.bool false)], args := [d] }
  | _ => none }
def HireStartsWrongFalsely : Prop := hireStartsRow.holds Tryd.pinned (OpenSpec.ofChange hireStartsWrong)

/-- 'rentlaw1.DriversMay': WHATEVER THE INPUT: true; the input reads as it did. -/
def driversMaySpec : ChangeSpec := { name := "driversMay", fn := fun _ => fun
  | [d] => { results := [.lit (.bool true)], args := [d] }
  | _ => none }
def driversMayRow : OpenClaim := { program := "ytndeidcddlmhbaadoor", sum := "80b6995f0ec1cd995fb490d0a46efea5379f0f383903cba6c66779edd9d5703c", func := "forecourt/rentlaw1.DriversMay", spec := "driversMay", inPlace := ["internal/bytealg.IndexByteString", "internal/bytealg.IndexString"], unfollowed := true, recurses := true, named := ["unicode/utf8.first", "unicode/utf8.acceptRanges", "internal/bytealg.MaxLen"], apart := false, laid := [("unicode/utf8.acceptRanges", laid_unicode_utf8_acceptRanges), ("unicode/utf8.first", laid_unicode_utf8_first)] }
def DriversMaySaid : Prop := driversMayRow.holds Tryd.pinned (OpenSpec.ofChange driversMaySpec)

/-- ITS FALSE NEIGHBOUR: 'it returns false'. Refute it at one input. -/
def driversMayWrong : ChangeSpec := { name := "driversMay", fn := fun _ => fun
  | [d] => { results := [.lit (.bool false)], args := [d] }
  | _ => none }
def DriversMayWrongFalsely : Prop := driversMayRow.holds Tryd.pinned (OpenSpec.ofChange driversMayWrong)

/-- 'rentlaw1.RateChecks': WHATEVER THE INPUT: true; the input reads as it did. -/
def rateChecksSpec : ChangeSpec := { name := "rateChecks", fn := fun _ => fun
  | [d] => { results := [.lit (.bool true)], args := [d] }
  | _ => none }
def rateChecksRow : OpenClaim := { program := "ytndeidcddlmhbaadoor", sum := "80b6995f0ec1cd995fb490d0a46efea5379f0f383903cba6c66779edd9d5703c", func := "forecourt/rentlaw1.RateChecks", spec := "rateChecks", inPlace := ["internal/bytealg.abigen_runtime_cmpstring", "internal/bytealg.IndexByteString", "internal/bytealg.IndexString"], unfollowed := true, recurses := true, named := ["unicode/utf8.first", "unicode/utf8.acceptRanges", "internal/bytealg.MaxLen"], apart := false, laid := [("unicode/utf8.acceptRanges", laid_unicode_utf8_acceptRanges), ("unicode/utf8.first", laid_unicode_utf8_first)] }
def RateChecksSaid : Prop := rateChecksRow.holds Tryd.pinned (OpenSpec.ofChange rateChecksSpec)

/-- ITS FALSE NEIGHBOUR: 'it returns false'. Refute it at one input. -/
def rateChecksWrong : ChangeSpec := { name := "rateChecks", fn := fun _ => fun
  | [d] => { results := [.lit (.bool false)], args := [d] }
  | _ => none }
def RateChecksWrongFalsely : Prop := rateChecksRow.holds Tryd.pinned (OpenSpec.ofChange rateChecksWrong)

/-- 'rentlaw1.CodesTake': WHATEVER THE INPUT: true; the input reads as it did. -/
def codesTakeSpec : ChangeSpec := { name := "codesTake", fn := fun _ => fun
  | [d] => { results := [.lit (.bool true)], args := [d] }
  | _ => none }
def codesTakeRow : OpenClaim := { program := "ytndeidcddlmhbaadoor", sum := "80b6995f0ec1cd995fb490d0a46efea5379f0f383903cba6c66779edd9d5703c", func := "forecourt/rentlaw1.CodesTake", spec := "codesTake", inPlace := ["internal/bytealg.IndexByteString", "internal/bytealg.IndexString", "internal/bytealg.abigen_runtime_cmpstring"], unfollowed := true, recurses := true, named := ["unicode/utf8.first", "unicode/utf8.acceptRanges", "internal/bytealg.MaxLen"], apart := false, laid := [("unicode/utf8.acceptRanges", laid_unicode_utf8_acceptRanges), ("unicode/utf8.first", laid_unicode_utf8_first)] }
def CodesTakeSaid : Prop := codesTakeRow.holds Tryd.pinned (OpenSpec.ofChange codesTakeSpec)

/-- ITS FALSE NEIGHBOUR: 'it returns false'. Refute it at one input. -/
def codesTakeWrong : ChangeSpec := { name := "codesTake", fn := fun _ => fun
  | [d] => { results := [.lit (.bool false)], args := [d] }
  | _ => none }
def CodesTakeWrongFalsely : Prop := codesTakeRow.holds Tryd.pinned (OpenSpec.ofChange codesTakeWrong)

/-- 'rentlaw2.PlacesCheck': WHATEVER THE INPUT: true; the input reads as it did. -/
def placesCheckSpec : ChangeSpec := { name := "placesCheck", fn := fun _ => fun
  | [d] => { results := [.lit (.bool true)], args := [d] }
  | _ => none }
def placesCheckRow : OpenClaim := { program := "ytndeidcddlmhbaadoor", sum := "80b6995f0ec1cd995fb490d0a46efea5379f0f383903cba6c66779edd9d5703c", func := "forecourt/rentlaw2.PlacesCheck", spec := "placesCheck", inPlace := ["internal/bytealg.IndexByteString", "internal/bytealg.IndexString", "internal/bytealg.abigen_runtime_cmpstring"], unfollowed := true, recurses := true, named := ["unicode/utf8.first", "unicode/utf8.acceptRanges", "internal/bytealg.MaxLen"], apart := false, laid := [("unicode/utf8.acceptRanges", laid_unicode_utf8_acceptRanges), ("unicode/utf8.first", laid_unicode_utf8_first)] }
def PlacesCheckSaid : Prop := placesCheckRow.holds Tryd.pinned (OpenSpec.ofChange placesCheckSpec)

/-- ITS FALSE NEIGHBOUR: 'it returns false'. Refute it at one input. -/
def placesCheckWrong : ChangeSpec := { name := "placesCheck", fn := fun _ => fun
  | [d] => { results := [.lit (.bool false)], args := [d] }
  | _ => none }
def PlacesCheckWrongFalsely : Prop := placesCheckRow.holds Tryd.pinned (OpenSpec.ofChange placesCheckWrong)

/-- 'rentkeep1.BillsSettle': WHATEVER THE INPUT: true; the input reads as it did. -/
def billsSettleSpec : ChangeSpec := { name := "billsSettle", fn := fun _ => fun
  | [d] => { results := [.lit (.bool true)], args := [d] }
  | _ => none }
def billsSettleRow : OpenClaim := { program := "ytndeidcddlmhbaadoor", sum := "80b6995f0ec1cd995fb490d0a46efea5379f0f383903cba6c66779edd9d5703c", func := "forecourt/rentkeep1.BillsSettle", spec := "billsSettle", inPlace := ["internal/bytealg.IndexByteString", "internal/bytealg.IndexString"], named := ["unicode/utf8.first", "unicode/utf8.acceptRanges", "internal/bytealg.MaxLen"], apart := false, laid := [("unicode/utf8.acceptRanges", laid_unicode_utf8_acceptRanges), ("unicode/utf8.first", laid_unicode_utf8_first)] }
def BillsSettleSaid : Prop := billsSettleRow.holds Tryd.pinned (OpenSpec.ofChange billsSettleSpec)

/-- ITS FALSE NEIGHBOUR: 'it returns false'. Refute it at one input. -/
def billsSettleWrong : ChangeSpec := { name := "billsSettle", fn := fun _ => fun
  | [d] => { results := [.lit (.bool false)], args := [d] }
  | _ => none }
def BillsSettleWrongFalsely : Prop := billsSettleRow.holds Tryd.pinned (OpenSpec.ofChange billsSettleWrong)

/- THE SECOND FORM. 'bulk': how many values and letters a reading holds, each counted each time it is reached (what is shared counts as often as it is met; a slice's spare places count too). A statement '..UptoSaid' is the law's where the arguments, and the package variables that the reading takes, are together of bulk at most 1048576: NARROWER than '..Said'. Prove '..Said' where nothing that the law and all that it calls make is longer than what came in: it says more and counts as full. Else prove '..UptoSaid'. A law counts once. -/
mutual
def uptoBulk {H : Type} : DataW H → Nat
  | .lit (.string bytes) => bytes.length + 1
  | .lit _ => 1
  | .nil => 1
  | .ptr d => uptoBulk d + 1
  | .slice elems spare => uptoBulkAll elems + uptoBulkAll spare + 1
  | .agg parts => uptoBulkAll parts + 1
  | .iface _ d => uptoBulk d + 1
  | .map entries => uptoBulkEntries entries + 1
  | .held _ => 1
def uptoBulkAll {H : Type} : List (DataW H) → Nat
  | [] => 0
  | d :: r => uptoBulk d + uptoBulkAll r
def uptoBulkEntries {H : Type} : List (Lit × DataW H) → Nat
  | [] => 0
  | x :: r => uptoBulkEntry x + uptoBulkEntries r
def uptoBulkEntry {H : Type} : Lit × DataW H → Nat
  | (.string bytes, d) => bytes.length + uptoBulk d + 1
  | (_, d) => uptoBulk d + 1
 end
def uptoSmall : (H : Type) → List (DataW H) → Bool := fun _ ds => decide (uptoBulkAll ds ≤ 1048576)
def OpenSpec.upto (s : _root_.Go.ChangeSpec) : _root_.Go.OpenSpec := { _root_.Go.OpenSpec.ofChange s with cond := some uptoSmall }

/-- 'rentlaw1.CancelsCost', WHERE WHAT IT READS IS OF BULK AT MOST 1048576: true; the input reads as it did. -/
def cancelsCostUptoRow : OpenClaim := { program := "ytndeidcddlmhbaadoor", sum := "80b6995f0ec1cd995fb490d0a46efea5379f0f383903cba6c66779edd9d5703c", func := "forecourt/rentlaw1.CancelsCost", spec := "cancelsCost", inPlace := ["internal/bytealg.IndexByteString", "internal/bytealg.IndexString"], named := ["unicode/utf8.first", "unicode/utf8.acceptRanges", "internal/bytealg.MaxLen"], apart := false, laid := [("unicode/utf8.acceptRanges", laid_unicode_utf8_acceptRanges), ("unicode/utf8.first", laid_unicode_utf8_first)], narrowed := true }
def CancelsCostUptoSaid : Prop := cancelsCostUptoRow.holds Tryd.pinned (OpenSpec.upto cancelsCostSpec)

/-- 'rentlaw1.HireStarts', WHERE WHAT IT READS IS OF BULK AT MOST 1048576: true; the input reads as it did. -/
def hireStartsUptoRow : OpenClaim := { program := "ytndeidcddlmhbaadoor", sum := "80b6995f0ec1cd995fb490d0a46efea5379f0f383903cba6c66779edd9d5703c", func := "forecourt/rentlaw1.HireStarts", spec := "hireStarts", inPlace := ["internal/bytealg.IndexByteString", "internal/bytealg.IndexString"], named := ["unicode/utf8.first", "unicode/utf8.acceptRanges", "internal/bytealg.MaxLen"], apart := false, laid := [("unicode/utf8.acceptRanges", laid_unicode_utf8_acceptRanges), ("unicode/utf8.first", laid_unicode_utf8_first)], narrowed := true }
def HireStartsUptoSaid : Prop := hireStartsUptoRow.holds Tryd.pinned (OpenSpec.upto hireStartsSpec)

/-- 'rentlaw1.DriversMay', WHERE WHAT IT READS IS OF BULK AT MOST 1048576: true; the input reads as it did. -/
def driversMayUptoRow : OpenClaim := { program := "ytndeidcddlmhbaadoor", sum := "80b6995f0ec1cd995fb490d0a46efea5379f0f383903cba6c66779edd9d5703c", func := "forecourt/rentlaw1.DriversMay", spec := "driversMay", inPlace := ["internal/bytealg.IndexByteString", "internal/bytealg.IndexString"], unfollowed := true, recurses := true, named := ["unicode/utf8.first", "unicode/utf8.acceptRanges", "internal/bytealg.MaxLen"], apart := false, laid := [("unicode/utf8.acceptRanges", laid_unicode_utf8_acceptRanges), ("unicode/utf8.first", laid_unicode_utf8_first)], narrowed := true }
def DriversMayUptoSaid : Prop := driversMayUptoRow.holds Tryd.pinned (OpenSpec.upto driversMaySpec)

/-- 'rentlaw1.RateChecks', WHERE WHAT IT READS IS OF BULK AT MOST 1048576: true; the input reads as it did. -/
def rateChecksUptoRow : OpenClaim := { program := "ytndeidcddlmhbaadoor", sum := "80b6995f0ec1cd995fb490d0a46efea5379f0f383903cba6c66779edd9d5703c", func := "forecourt/rentlaw1.RateChecks", spec := "rateChecks", inPlace := ["internal/bytealg.abigen_runtime_cmpstring", "internal/bytealg.IndexByteString", "internal/bytealg.IndexString"], unfollowed := true, recurses := true, named := ["unicode/utf8.first", "unicode/utf8.acceptRanges", "internal/bytealg.MaxLen"], apart := false, laid := [("unicode/utf8.acceptRanges", laid_unicode_utf8_acceptRanges), ("unicode/utf8.first", laid_unicode_utf8_first)], narrowed := true }
def RateChecksUptoSaid : Prop := rateChecksUptoRow.holds Tryd.pinned (OpenSpec.upto rateChecksSpec)

/-- 'rentlaw1.CodesTake', WHERE WHAT IT READS IS OF BULK AT MOST 1048576: true; the input reads as it did. -/
def codesTakeUptoRow : OpenClaim := { program := "ytndeidcddlmhbaadoor", sum := "80b6995f0ec1cd995fb490d0a46efea5379f0f383903cba6c66779edd9d5703c", func := "forecourt/rentlaw1.CodesTake", spec := "codesTake", inPlace := ["internal/bytealg.IndexByteString", "internal/bytealg.IndexString", "internal/bytealg.abigen_runtime_cmpstring"], unfollowed := true, recurses := true, named := ["unicode/utf8.first", "unicode/utf8.acceptRanges", "internal/bytealg.MaxLen"], apart := false, laid := [("unicode/utf8.acceptRanges", laid_unicode_utf8_acceptRanges), ("unicode/utf8.first", laid_unicode_utf8_first)], narrowed := true }
def CodesTakeUptoSaid : Prop := codesTakeUptoRow.holds Tryd.pinned (OpenSpec.upto codesTakeSpec)

/-- 'rentlaw2.PlacesCheck', WHERE WHAT IT READS IS OF BULK AT MOST 1048576: true; the input reads as it did. -/
def placesCheckUptoRow : OpenClaim := { program := "ytndeidcddlmhbaadoor", sum := "80b6995f0ec1cd995fb490d0a46efea5379f0f383903cba6c66779edd9d5703c", func := "forecourt/rentlaw2.PlacesCheck", spec := "placesCheck", inPlace := ["internal/bytealg.IndexByteString", "internal/bytealg.IndexString", "internal/bytealg.abigen_runtime_cmpstring"], unfollowed := true, recurses := true, named := ["unicode/utf8.first", "unicode/utf8.acceptRanges", "internal/bytealg.MaxLen"], apart := false, laid := [("unicode/utf8.acceptRanges", laid_unicode_utf8_acceptRanges), ("unicode/utf8.first", laid_unicode_utf8_first)], narrowed := true }
def PlacesCheckUptoSaid : Prop := placesCheckUptoRow.holds Tryd.pinned (OpenSpec.upto placesCheckSpec)

/-- 'rentkeep1.BillsSettle', WHERE WHAT IT READS IS OF BULK AT MOST 1048576: true; the input reads as it did. -/
def billsSettleUptoRow : OpenClaim := { program := "ytndeidcddlmhbaadoor", sum := "80b6995f0ec1cd995fb490d0a46efea5379f0f383903cba6c66779edd9d5703c", func := "forecourt/rentkeep1.BillsSettle", spec := "billsSettle", inPlace := ["internal/bytealg.IndexByteString", "internal/bytealg.IndexString"], named := ["unicode/utf8.first", "unicode/utf8.acceptRanges", "internal/bytealg.MaxLen"], apart := false, laid := [("unicode/utf8.acceptRanges", laid_unicode_utf8_acceptRanges), ("unicode/utf8.first", laid_unicode_utf8_first)], narrowed := true }
def BillsSettleUptoSaid : Prop := billsSettleUptoRow.holds Tryd.pinned (OpenSpec.upto billsSettleSpec)

end Rows
end Go.Proofs.YtndeidcddlmhbaaDoor
