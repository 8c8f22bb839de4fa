/-
  NARROWER THAN 'FOR EVERY INPUT', by the rows' own cells (each row's printed sentence says how): CancelsCost: laid · RateChecks: laid · PartsCost: laid · CodesTake: laid · ServicesDue: laid.
  DERIVED. THE GIVEN ROWS OF THIS SEAT. 5 by the template 'for every input the law returns true; each argument reads behind the call as it read before'; 0 by the template 'total and deterministic' (their statements: YtddedckehllkoaaDoorTotals.lean).
  GIVEN WITH THE SEED: the statements are not yours to turn. If you find one false, say at which input.
  Laid BY PROGRAM, IN A SANDBOX (cutbox-rows.mjs): the forced cells as the released guide's own fill.sh prints them over the translation 2cc5cb335903aff0… (all of the seat's roots in one cut). By AI agents, Wed Nov 11 2026. No macro, syntax, notation, axiom, sorry.
-/
import Derived.Test.YtddedckehllkoaaDoorChecked
import GoSem.PinnedTables
import GoSem.Claim
import GoSem.ClaimJoined
import GoSem.ClaimMapViews
import Derived.JoinedTies
import Derived.KernelRfl
namespace Go.Proofs.YtddedckehllkoaaDoor
/- THE CELL 'sum', in the pinned program and in every row, IS THE sha256 OF THE DUMP (.gsa) THAT YtddedckehllkoaaDoorProg.lean LOADS. Nothing in Lean hashes anything: it is a label: what it is worth is what the hold of that sum in a sandbox is worth. -/
noncomputable def Tryd.pinned : Pinned := { name := "ytddedckehllkoaadoor", sum := "2cc5cb335903aff06be7313c53c52b41e632e88da39ac4f7834cb6350fffcd4e", checked := Tryd.checked }
namespace Rows
def none {H : Type} : Left H := { results := [], args := [] }

/- WHAT THE LISTED PACKAGE-LEVEL VARIABLES READ AS WHEN THE CALL BEGINS. Each datum BY PROGRAM (the guide's laid-datum.mjs) off the statement by which the dump's own 'gosem.cut.vars' lays the variable. In a bare row this is a premise. The card (YtddedckehllkoaaDoorCards.lean) ties it to the program's text. -/
def laid_unicode_utf8_acceptRanges {H : Type} : DataW H := .agg [.agg [.lit (.int .u8 128), .lit (.int .u8 191)], .agg [.lit (.int .u8 160), .lit (.int .u8 191)], .agg [.lit (.int .u8 128), .lit (.int .u8 159)], .agg [.lit (.int .u8 144), .lit (.int .u8 191)], .agg [.lit (.int .u8 128), .lit (.int .u8 143)], .agg [.lit (.int .u8 0), .lit (.int .u8 0)], .agg [.lit (.int .u8 0), .lit (.int .u8 0)], .agg [.lit (.int .u8 0), .lit (.int .u8 0)], .agg [.lit (.int .u8 0), .lit (.int .u8 0)], .agg [.lit (.int .u8 0), .lit (.int .u8 0)], .agg [.lit (.int .u8 0), .lit (.int .u8 0)], .agg [.lit (.int .u8 0), .lit (.int .u8 0)], .agg [.lit (.int .u8 0), .lit (.int .u8 0)], .agg [.lit (.int .u8 0), .lit (.int .u8 0)], .agg [.lit (.int .u8 0), .lit (.int .u8 0)], .agg [.lit (.int .u8 0), .lit (.int .u8 0)]]
/-- One of Go's own tables, pinned by name: the form's constant. -/
def laid_unicode_utf8_first : DataW Unit := Go.Pinned.utf8First

/-- 'rentlaw1.CancelsCost': WHATEVER THE INPUT: true; the input reads as it did. -/
def cancelsCostSpec : ChangeSpec := { name := "cancelsCost", fn := fun _ => fun
  | [d] => { results := [.lit (.bool true)], args := [d] }
  | _ => none }
def cancelsCostRow : OpenClaim := { program := "ytddedckehllkoaadoor", sum := "2cc5cb335903aff06be7313c53c52b41e632e88da39ac4f7834cb6350fffcd4e", func := "forecourt/rentlaw1.CancelsCost", spec := "cancelsCost", inPlace := ["internal/bytealg.IndexByteString", "internal/bytealg.IndexString"], named := ["unicode/utf8.first", "unicode/utf8.acceptRanges", "internal/bytealg.MaxLen"], apart := false, laid := [("unicode/utf8.acceptRanges", laid_unicode_utf8_acceptRanges), ("unicode/utf8.first", laid_unicode_utf8_first)] }
def CancelsCostSaid : Prop := cancelsCostRow.holds Tryd.pinned (OpenSpec.ofChange cancelsCostSpec)

/-- ITS FALSE NEIGHBOUR: 'it returns false'. Refute it at one input. -/
def cancelsCostWrong : ChangeSpec := { name := "cancelsCost", fn := fun _ => fun
  | [d] => { results := [.lit (.bool false)], args := [d] }
  | _ => none }
def CancelsCostWrongFalsely : Prop := cancelsCostRow.holds Tryd.pinned (OpenSpec.ofChange cancelsCostWrong)

/-- 'rentlaw1.RateChecks': WHATEVER THE INPUT: true; the input reads as it did. -/
def rateChecksSpec : ChangeSpec := { name := "rateChecks", fn := fun _ => fun
  | [d] => { results := [.lit (.bool true)], args := [d] }
  | _ => none }
def rateChecksRow : OpenClaim := { program := "ytddedckehllkoaadoor", sum := "2cc5cb335903aff06be7313c53c52b41e632e88da39ac4f7834cb6350fffcd4e", func := "forecourt/rentlaw1.RateChecks", spec := "rateChecks", inPlace := ["internal/bytealg.abigen_runtime_cmpstring", "internal/bytealg.IndexByteString", "internal/bytealg.IndexString"], unfollowed := true, recurses := true, named := ["unicode/utf8.first", "unicode/utf8.acceptRanges", "internal/bytealg.MaxLen"], apart := false, laid := [("unicode/utf8.acceptRanges", laid_unicode_utf8_acceptRanges), ("unicode/utf8.first", laid_unicode_utf8_first)] }
def RateChecksSaid : Prop := rateChecksRow.holds Tryd.pinned (OpenSpec.ofChange rateChecksSpec)

/-- ITS FALSE NEIGHBOUR: 'it returns false'. Refute it at one input. -/
def rateChecksWrong : ChangeSpec := { name := "rateChecks", fn := fun _ => fun
  | [d] => { results := [.lit (.bool false)], args := [d] }
  | _ => none }
def RateChecksWrongFalsely : Prop := rateChecksRow.holds Tryd.pinned (OpenSpec.ofChange rateChecksWrong)

/-- 'rentlaw1.PartsCost': WHATEVER THE INPUT: true; the input reads as it did. -/
def partsCostSpec : ChangeSpec := { name := "partsCost", fn := fun _ => fun
  | [d] => { results := [.lit (.bool true)], args := [d] }
  | _ => none }
def partsCostRow : OpenClaim := { program := "ytddedckehllkoaadoor", sum := "2cc5cb335903aff06be7313c53c52b41e632e88da39ac4f7834cb6350fffcd4e", func := "forecourt/rentlaw1.PartsCost", spec := "partsCost", inPlace := ["internal/bytealg.abigen_runtime_cmpstring", "internal/bytealg.IndexByteString", "internal/bytealg.IndexString"], unfollowed := true, recurses := true, named := ["unicode/utf8.first", "unicode/utf8.acceptRanges", "internal/bytealg.MaxLen"], apart := false, laid := [("unicode/utf8.acceptRanges", laid_unicode_utf8_acceptRanges), ("unicode/utf8.first", laid_unicode_utf8_first)] }
def PartsCostSaid : Prop := partsCostRow.holds Tryd.pinned (OpenSpec.ofChange partsCostSpec)

/-- ITS FALSE NEIGHBOUR: 'it returns false'. Refute it at one input. -/
def partsCostWrong : ChangeSpec := { name := "partsCost", fn := fun _ => fun
  | [d] => { results := [.lit (.bool false)], args := [d] }
  | _ => none }
def PartsCostWrongFalsely : Prop := partsCostRow.holds Tryd.pinned (OpenSpec.ofChange partsCostWrong)

/-- 'rentlaw1.CodesTake': WHATEVER THE INPUT: true; the input reads as it did. -/
def codesTakeSpec : ChangeSpec := { name := "codesTake", fn := fun _ => fun
  | [d] => { results := [.lit (.bool true)], args := [d] }
  | _ => none }
def codesTakeRow : OpenClaim := { program := "ytddedckehllkoaadoor", sum := "2cc5cb335903aff06be7313c53c52b41e632e88da39ac4f7834cb6350fffcd4e", func := "forecourt/rentlaw1.CodesTake", spec := "codesTake", inPlace := ["internal/bytealg.IndexByteString", "internal/bytealg.IndexString", "internal/bytealg.abigen_runtime_cmpstring"], unfollowed := true, recurses := true, named := ["unicode/utf8.first", "unicode/utf8.acceptRanges", "internal/bytealg.MaxLen"], apart := false, laid := [("unicode/utf8.acceptRanges", laid_unicode_utf8_acceptRanges), ("unicode/utf8.first", laid_unicode_utf8_first)] }
def CodesTakeSaid : Prop := codesTakeRow.holds Tryd.pinned (OpenSpec.ofChange codesTakeSpec)

/-- ITS FALSE NEIGHBOUR: 'it returns false'. Refute it at one input. -/
def codesTakeWrong : ChangeSpec := { name := "codesTake", fn := fun _ => fun
  | [d] => { results := [.lit (.bool false)], args := [d] }
  | _ => none }
def CodesTakeWrongFalsely : Prop := codesTakeRow.holds Tryd.pinned (OpenSpec.ofChange codesTakeWrong)

/-- 'rentlaw2.ServicesDue': WHATEVER THE INPUT: true; the input reads as it did. -/
def servicesDueSpec : ChangeSpec := { name := "servicesDue", fn := fun _ => fun
  | [d] => { results := [.lit (.bool true)], args := [d] }
  | _ => none }
def servicesDueRow : OpenClaim := { program := "ytddedckehllkoaadoor", sum := "2cc5cb335903aff06be7313c53c52b41e632e88da39ac4f7834cb6350fffcd4e", func := "forecourt/rentlaw2.ServicesDue", spec := "servicesDue", inPlace := ["internal/bytealg.IndexByteString", "internal/bytealg.IndexString", "internal/bytealg.abigen_runtime_cmpstring"], unfollowed := true, recurses := true, named := ["unicode/utf8.first", "unicode/utf8.acceptRanges", "internal/bytealg.MaxLen"], apart := false, laid := [("unicode/utf8.acceptRanges", laid_unicode_utf8_acceptRanges), ("unicode/utf8.first", laid_unicode_utf8_first)] }
def ServicesDueSaid : Prop := servicesDueRow.holds Tryd.pinned (OpenSpec.ofChange servicesDueSpec)

/-- ITS FALSE NEIGHBOUR: 'it returns false'. Refute it at one input. -/
def servicesDueWrong : ChangeSpec := { name := "servicesDue", fn := fun _ => fun
  | [d] => { results := [.lit (.bool false)], args := [d] }
  | _ => none }
def ServicesDueWrongFalsely : Prop := servicesDueRow.holds Tryd.pinned (OpenSpec.ofChange servicesDueWrong)

/- THE SECOND FORM. 'bulk': how many values and letters a reading holds, each counted each time it is reached (what is shared counts as often as it is met; a slice's spare places count too). A statement '..UptoSaid' is the law's where the arguments, and the package variables that the reading takes, are together of bulk at most 1048576: NARROWER than '..Said'. Prove '..Said' where nothing that the law and all that it calls make is longer than what came in: it says more and counts as full. Else prove '..UptoSaid'. A law counts once. -/
mutual
def uptoBulk {H : Type} : DataW H → Nat
  | .lit (.string bytes) => bytes.length + 1
  | .lit _ => 1
  | .nil => 1
  | .ptr d => uptoBulk d + 1
  | .slice elems spare => uptoBulkAll elems + uptoBulkAll spare + 1
  | .agg parts => uptoBulkAll parts + 1
  | .iface _ d => uptoBulk d + 1
  | .map entries => uptoBulkEntries entries + 1
  | .held _ => 1
def uptoBulkAll {H : Type} : List (DataW H) → Nat
  | [] => 0
  | d :: r => uptoBulk d + uptoBulkAll r
def uptoBulkEntries {H : Type} : List (Lit × DataW H) → Nat
  | [] => 0
  | x :: r => uptoBulkEntry x + uptoBulkEntries r
def uptoBulkEntry {H : Type} : Lit × DataW H → Nat
  | (.string bytes, d) => bytes.length + uptoBulk d + 1
  | (_, d) => uptoBulk d + 1
 end
def uptoSmall : (H : Type) → List (DataW H) → Bool := fun _ ds => decide (uptoBulkAll ds ≤ 1048576)
def OpenSpec.upto (s : _root_.Go.ChangeSpec) : _root_.Go.OpenSpec := { _root_.Go.OpenSpec.ofChange s with cond := some uptoSmall }

/-- 'rentlaw1.CancelsCost', WHERE WHAT IT READS IS OF BULK AT MOST 1048576: true; the input reads as it did. -/
def cancelsCostUptoRow : OpenClaim := { program := "ytddedckehllkoaadoor", sum := "2cc5cb335903aff06be7313c53c52b41e632e88da39ac4f7834cb6350fffcd4e", func := "forecourt/rentlaw1.CancelsCost", spec := "cancelsCost", inPlace := ["internal/bytealg.IndexByteString", "internal/bytealg.IndexString"], named := ["unicode/utf8.first", "unicode/utf8.acceptRanges", "internal/bytealg.MaxLen"], apart := false, laid := [("unicode/utf8.acceptRanges", laid_unicode_utf8_acceptRanges), ("unicode/utf8.first", laid_unicode_utf8_first)], narrowed := true }
def CancelsCostUptoSaid : Prop := cancelsCostUptoRow.holds Tryd.pinned (OpenSpec.upto cancelsCostSpec)

/-- 'rentlaw1.RateChecks', WHERE WHAT IT READS IS OF BULK AT MOST 1048576: true; the input reads as it did. -/
def rateChecksUptoRow : OpenClaim := { program := "ytddedckehllkoaadoor", sum := "2cc5cb335903aff06be7313c53c52b41e632e88da39ac4f7834cb6350fffcd4e", func := "forecourt/rentlaw1.RateChecks", spec := "rateChecks", inPlace := ["internal/bytealg.abigen_runtime_cmpstring", "internal/bytealg.IndexByteString", "internal/bytealg.IndexString"], unfollowed := true, recurses := true, named := ["unicode/utf8.first", "unicode/utf8.acceptRanges", "internal/bytealg.MaxLen"], apart := false, laid := [("unicode/utf8.acceptRanges", laid_unicode_utf8_acceptRanges), ("unicode/utf8.first", laid_unicode_utf8_first)], narrowed := true }
def RateChecksUptoSaid : Prop := rateChecksUptoRow.holds Tryd.pinned (OpenSpec.upto rateChecksSpec)

/-- 'rentlaw1.PartsCost', WHERE WHAT IT READS IS OF BULK AT MOST 1048576: true; the input reads as it did. -/
def partsCostUptoRow : OpenClaim := { program := "ytddedckehllkoaadoor", sum := "2cc5cb335903aff06be7313c53c52b41e632e88da39ac4f7834cb6350fffcd4e", func := "forecourt/rentlaw1.PartsCost", spec := "partsCost", inPlace := ["internal/bytealg.abigen_runtime_cmpstring", "internal/bytealg.IndexByteString", "internal/bytealg.IndexString"], unfollowed := true, recurses := true, named := ["unicode/utf8.first", "unicode/utf8.acceptRanges", "internal/bytealg.MaxLen"], apart := false, laid := [("unicode/utf8.acceptRanges", laid_unicode_utf8_acceptRanges), ("unicode/utf8.first", laid_unicode_utf8_first)], narrowed := true }
def PartsCostUptoSaid : Prop := partsCostUptoRow.holds Tryd.pinned (OpenSpec.upto partsCostSpec)

/-- 'rentlaw1.CodesTake', WHERE WHAT IT READS IS OF BULK AT MOST 1048576: true; the input reads as it did. -/
def codesTakeUptoRow : OpenClaim := { program := "ytddedckehllkoaadoor", sum := "2cc5cb335903aff06be7313c53c52b41e632e88da39ac4f7834cb6350fffcd4e", func := "forecourt/rentlaw1.CodesTake", spec := "codesTake", inPlace := ["internal/bytealg.IndexByteString", "internal/bytealg.IndexString", "internal/bytealg.abigen_runtime_cmpstring"], unfollowed := true, recurses := true, named := ["unicode/utf8.first", "unicode/utf8.acceptRanges", "internal/bytealg.MaxLen"], apart := false, laid := [("unicode/utf8.acceptRanges", laid_unicode_utf8_acceptRanges), ("unicode/utf8.first", laid_unicode_utf8_first)], narrowed := true }
def CodesTakeUptoSaid : Prop := codesTakeUptoRow.holds Tryd.pinned (OpenSpec.upto codesTakeSpec)

/-- 'rentlaw2.ServicesDue', WHERE WHAT IT READS IS OF BULK AT MOST 1048576: true; the input reads as it did. -/
def servicesDueUptoRow : OpenClaim := { program := "ytddedckehllkoaadoor", sum := "2cc5cb335903aff06be7313c53c52b41e632e88da39ac4f7834cb6350fffcd4e", func := "forecourt/rentlaw2.ServicesDue", spec := "servicesDue", inPlace := ["internal/bytealg.IndexByteString", "internal/bytealg.IndexString", "internal/bytealg.abigen_runtime_cmpstring"], unfollowed := true, recurses := true, named := ["unicode/utf8.first", "unicode/utf8.acceptRanges", "internal/bytealg.MaxLen"], apart := false, laid := [("unicode/utf8.acceptRanges", laid_unicode_utf8_acceptRanges), ("unicode/utf8.first", laid_unicode_utf8_first)], narrowed := true }
def ServicesDueUptoSaid : Prop := servicesDueUptoRow.holds Tryd.pinned (OpenSpec.upto servicesDueSpec)

end Rows
end Go.Proofs.YtddedckehllkoaaDoor
