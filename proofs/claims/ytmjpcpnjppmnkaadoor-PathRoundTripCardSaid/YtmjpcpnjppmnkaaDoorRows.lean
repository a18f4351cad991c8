/-
  NARROWER THAN 'FOR EVERY INPUT', by the rows' own cells (each row's printed sentence says how): PathSplitMatchesSpec: laid · PathCleanMatchesSpec: laid · PathContainsMatchesSpec: laid · PathRoundTrip: laid · PathContainsIsPartialOrder: laid.
  DERIVED. THE GIVEN ROWS OF THIS SEAT. 5 by the template 'for every input the law returns true; each argument reads behind the call as it read before'; 0 by the template 'total and deterministic' (their statements: YtmjpcpnjppmnkaaDoorTotals.lean).
  GIVEN WITH THE SEED: the statements are not yours to turn. If you find one false, say at which input.
  Laid BY PROGRAM, IN A SANDBOX (cutbox-rows.mjs): the forced cells as the released guide's own fill.sh prints them over the translation 63b2285379082712… (all of the seat's roots in one cut). By AI agents, Wed Nov 11 2026. No macro, syntax, notation, axiom, sorry.
-/
import Derived.Test.YtmjpcpnjppmnkaaDoorChecked
import GoSem.PinnedTables
import GoSem.Claim
import GoSem.ClaimJoined
import GoSem.ClaimMapViews
import Derived.JoinedTies
import Derived.KernelRfl
namespace Go.Proofs.YtmjpcpnjppmnkaaDoor
/- THE CELL 'sum', in the pinned program and in every row, IS THE sha256 OF THE DUMP (.gsa) THAT YtmjpcpnjppmnkaaDoorProg.lean LOADS. Nothing in Lean hashes anything: it is a label: what it is worth is what the hold of that sum in a sandbox is worth. -/
noncomputable def Tryd.pinned : Pinned := { name := "ytmjpcpnjppmnkaadoor", sum := "63b2285379082712cd8f5f2883e74b327d363768883c63fdc925bbdfe8eb1d3f", checked := Tryd.checked }
namespace Rows
def none {H : Type} : Left H := { results := [], args := [] }

/- WHAT THE LISTED PACKAGE-LEVEL VARIABLES READ AS WHEN THE CALL BEGINS. Each datum BY PROGRAM (the guide's laid-datum.mjs) off the statement by which the dump's own 'gosem.cut.vars' lays the variable. In a bare row this is a premise. The card (YtmjpcpnjppmnkaaDoorCards.lean) ties it to the program's text. -/
def laid_unicode_utf8_acceptRanges {H : Type} : DataW H := .agg [.agg [.lit (.int .u8 128), .lit (.int .u8 191)], .agg [.lit (.int .u8 160), .lit (.int .u8 191)], .agg [.lit (.int .u8 128), .lit (.int .u8 159)], .agg [.lit (.int .u8 144), .lit (.int .u8 191)], .agg [.lit (.int .u8 128), .lit (.int .u8 143)], .agg [.lit (.int .u8 0), .lit (.int .u8 0)], .agg [.lit (.int .u8 0), .lit (.int .u8 0)], .agg [.lit (.int .u8 0), .lit (.int .u8 0)], .agg [.lit (.int .u8 0), .lit (.int .u8 0)], .agg [.lit (.int .u8 0), .lit (.int .u8 0)], .agg [.lit (.int .u8 0), .lit (.int .u8 0)], .agg [.lit (.int .u8 0), .lit (.int .u8 0)], .agg [.lit (.int .u8 0), .lit (.int .u8 0)], .agg [.lit (.int .u8 0), .lit (.int .u8 0)], .agg [.lit (.int .u8 0), .lit (.int .u8 0)], .agg [.lit (.int .u8 0), .lit (.int .u8 0)]]
/-- One of Go's own tables, pinned by name: the form's constant. -/
def laid_unicode_utf8_first : DataW Unit := Go.Pinned.utf8First

/-- 'farshelflaw3.PathSplitMatchesSpec': WHATEVER THE INPUT: true; the input reads as it did. -/
def pathSplitMatchesSpecSpec : ChangeSpec := { name := "pathSplitMatchesSpec", fn := fun _ => fun
  | [d] => { results := [.lit (.bool true)], args := [d] }
  | _ => none }
def pathSplitMatchesSpecRow : OpenClaim := { program := "ytmjpcpnjppmnkaadoor", sum := "63b2285379082712cd8f5f2883e74b327d363768883c63fdc925bbdfe8eb1d3f", func := "farshelf/farshelflaw3.PathSplitMatchesSpec", spec := "pathSplitMatchesSpec", inPlace := ["internal/bytealg.CountString", "internal/bytealg.IndexByteString", "internal/bytealg.IndexString"], unfollowed := true, recurses := true, named := ["unicode/utf8.first", "unicode/utf8.acceptRanges", "internal/bytealg.MaxLen"], apart := false, laid := [("unicode/utf8.acceptRanges", laid_unicode_utf8_acceptRanges), ("unicode/utf8.first", laid_unicode_utf8_first)] }
def PathSplitMatchesSpecSaid : Prop := pathSplitMatchesSpecRow.holds Tryd.pinned (OpenSpec.ofChange pathSplitMatchesSpecSpec)

/-- ITS FALSE NEIGHBOUR: 'it returns false'. Refute it at one input. -/
def pathSplitMatchesSpecWrong : ChangeSpec := { name := "pathSplitMatchesSpec", fn := fun _ => fun
  | [d] => { results := [.lit (.bool false)], args := [d] }
  | _ => none }
def PathSplitMatchesSpecWrongFalsely : Prop := pathSplitMatchesSpecRow.holds Tryd.pinned (OpenSpec.ofChange pathSplitMatchesSpecWrong)

/-- 'farshelflaw3.PathCleanMatchesSpec': WHATEVER THE INPUT: true; the input reads as it did. -/
def pathCleanMatchesSpecSpec : ChangeSpec := { name := "pathCleanMatchesSpec", fn := fun _ => fun
  | [d] => { results := [.lit (.bool true)], args := [d] }
  | _ => none }
def pathCleanMatchesSpecRow : OpenClaim := { program := "ytmjpcpnjppmnkaadoor", sum := "63b2285379082712cd8f5f2883e74b327d363768883c63fdc925bbdfe8eb1d3f", func := "farshelf/farshelflaw3.PathCleanMatchesSpec", spec := "pathCleanMatchesSpec", inPlace := ["internal/bytealg.CountString", "internal/bytealg.IndexByteString", "internal/bytealg.IndexString", "internal/abi.NoEscape", "internal/bytealg.MakeNoZero"], unfollowed := true, recurses := true, named := ["unicode/utf8.first", "unicode/utf8.acceptRanges", "internal/bytealg.MaxLen"], apart := false, laid := [("unicode/utf8.acceptRanges", laid_unicode_utf8_acceptRanges), ("unicode/utf8.first", laid_unicode_utf8_first)] }
def PathCleanMatchesSpecSaid : Prop := pathCleanMatchesSpecRow.holds Tryd.pinned (OpenSpec.ofChange pathCleanMatchesSpecSpec)

/-- ITS FALSE NEIGHBOUR: 'it returns false'. Refute it at one input. -/
def pathCleanMatchesSpecWrong : ChangeSpec := { name := "pathCleanMatchesSpec", fn := fun _ => fun
  | [d] => { results := [.lit (.bool false)], args := [d] }
  | _ => none }
def PathCleanMatchesSpecWrongFalsely : Prop := pathCleanMatchesSpecRow.holds Tryd.pinned (OpenSpec.ofChange pathCleanMatchesSpecWrong)

/-- 'farshelflaw3.PathContainsMatchesSpec': WHATEVER THE INPUT: true; the input reads as it did. -/
def pathContainsMatchesSpecSpec : ChangeSpec := { name := "pathContainsMatchesSpec", fn := fun _ => fun
  | [d1, d2] => { results := [.lit (.bool true)], args := [d1, d2] }
  | _ => none }
def pathContainsMatchesSpecRow : OpenClaim := { program := "ytmjpcpnjppmnkaadoor", sum := "63b2285379082712cd8f5f2883e74b327d363768883c63fdc925bbdfe8eb1d3f", func := "farshelf/farshelflaw3.PathContainsMatchesSpec", spec := "pathContainsMatchesSpec", inPlace := ["internal/bytealg.CountString", "internal/bytealg.IndexByteString", "internal/bytealg.IndexString"], unfollowed := true, recurses := true, named := ["unicode/utf8.first", "unicode/utf8.acceptRanges", "internal/bytealg.MaxLen"], apart := false, laid := [("unicode/utf8.acceptRanges", laid_unicode_utf8_acceptRanges), ("unicode/utf8.first", laid_unicode_utf8_first)] }
def PathContainsMatchesSpecSaid : Prop := pathContainsMatchesSpecRow.holds Tryd.pinned (OpenSpec.ofChange pathContainsMatchesSpecSpec)

/-- ITS FALSE NEIGHBOUR: 'it returns false'. Refute it at one input. -/
def pathContainsMatchesSpecWrong : ChangeSpec := { name := "pathContainsMatchesSpec", fn := fun _ => fun
  | [d1, d2] => { results := [.lit (.bool false)], args := [d1, d2] }
  | _ => none }
def PathContainsMatchesSpecWrongFalsely : Prop := pathContainsMatchesSpecRow.holds Tryd.pinned (OpenSpec.ofChange pathContainsMatchesSpecWrong)

/-- 'farshelflaw3.PathRoundTrip': WHATEVER THE INPUT: true; the input reads as it did. -/
def pathRoundTripSpec : ChangeSpec := { name := "pathRoundTrip", fn := fun _ => fun
  | [d] => { results := [.lit (.bool true)], args := [d] }
  | _ => none }
def pathRoundTripRow : OpenClaim := { program := "ytmjpcpnjppmnkaadoor", sum := "63b2285379082712cd8f5f2883e74b327d363768883c63fdc925bbdfe8eb1d3f", func := "farshelf/farshelflaw3.PathRoundTrip", spec := "pathRoundTrip", inPlace := ["internal/abi.NoEscape", "internal/bytealg.MakeNoZero", "internal/bytealg.CountString", "internal/bytealg.IndexByteString", "internal/bytealg.IndexString"], unfollowed := true, recurses := true, named := ["unicode/utf8.first", "unicode/utf8.acceptRanges", "internal/bytealg.MaxLen"], apart := false, laid := [("unicode/utf8.acceptRanges", laid_unicode_utf8_acceptRanges), ("unicode/utf8.first", laid_unicode_utf8_first)] }
def PathRoundTripSaid : Prop := pathRoundTripRow.holds Tryd.pinned (OpenSpec.ofChange pathRoundTripSpec)

/-- ITS FALSE NEIGHBOUR: 'it returns false'. Refute it at one input. -/
def pathRoundTripWrong : ChangeSpec := { name := "pathRoundTrip", fn := fun _ => fun
  | [d] => { results := [.lit (.bool false)], args := [d] }
  | _ => none }
def PathRoundTripWrongFalsely : Prop := pathRoundTripRow.holds Tryd.pinned (OpenSpec.ofChange pathRoundTripWrong)

/-- 'farshelflaw3.PathContainsIsPartialOrder': WHATEVER THE INPUT: true; the input reads as it did. -/
def pathContainsIsPartialOrderSpec : ChangeSpec := { name := "pathContainsIsPartialOrder", fn := fun _ => fun
  | [d1, d2, d3] => { results := [.lit (.bool true)], args := [d1, d2, d3] }
  | _ => none }
def pathContainsIsPartialOrderRow : OpenClaim := { program := "ytmjpcpnjppmnkaadoor", sum := "63b2285379082712cd8f5f2883e74b327d363768883c63fdc925bbdfe8eb1d3f", func := "farshelf/farshelflaw3.PathContainsIsPartialOrder", spec := "pathContainsIsPartialOrder", inPlace := ["internal/bytealg.CountString", "internal/bytealg.IndexByteString", "internal/bytealg.IndexString"], unfollowed := true, recurses := true, named := ["unicode/utf8.first", "unicode/utf8.acceptRanges", "internal/bytealg.MaxLen"], apart := false, laid := [("unicode/utf8.acceptRanges", laid_unicode_utf8_acceptRanges), ("unicode/utf8.first", laid_unicode_utf8_first)] }
def PathContainsIsPartialOrderSaid : Prop := pathContainsIsPartialOrderRow.holds Tryd.pinned (OpenSpec.ofChange pathContainsIsPartialOrderSpec)

/-- ITS FALSE NEIGHBOUR: 'it returns false'. Refute it at one input. -/
def pathContainsIsPartialOrderWrong : ChangeSpec := { name := "pathContainsIsPartialOrder", fn := fun _ => fun
  | [d1, d2, d3] => { results := [.lit (.bool false)], args := [d1, d2, d3] }
  | _ => none }
def PathContainsIsPartialOrderWrongFalsely : Prop := pathContainsIsPartialOrderRow.holds Tryd.pinned (OpenSpec.ofChange pathContainsIsPartialOrderWrong)

/- THE SECOND FORM. 'bulk': how many values and letters a reading holds, each counted each time it is reached (what is shared counts as often as it is met; a slice's spare places count too). A statement '..UptoSaid' is the law's where the arguments, and the package variables that the reading takes, are together of bulk at most 1048576: NARROWER than '..Said'. Prove '..Said' where nothing that the law and all that it calls make is longer than what came in: it says more and counts as full. Else prove '..UptoSaid'. A law counts once. -/
mutual
def uptoBulk {H : Type} : DataW H → Nat
  | .lit (.string bytes) => bytes.length + 1
  | .lit _ => 1
  | .nil => 1
  | .ptr d => uptoBulk d + 1
  | .slice elems spare => uptoBulkAll elems + uptoBulkAll spare + 1
  | .agg parts => uptoBulkAll parts + 1
  | .iface _ d => uptoBulk d + 1
  | .map entries => uptoBulkEntries entries + 1
  | .held _ => 1
def uptoBulkAll {H : Type} : List (DataW H) → Nat
  | [] => 0
  | d :: r => uptoBulk d + uptoBulkAll r
def uptoBulkEntries {H : Type} : List (Lit × DataW H) → Nat
  | [] => 0
  | x :: r => uptoBulkEntry x + uptoBulkEntries r
def uptoBulkEntry {H : Type} : Lit × DataW H → Nat
  | (.string bytes, d) => bytes.length + uptoBulk d + 1
  | (_, d) => uptoBulk d + 1
 end
def uptoSmall : (H : Type) → List (DataW H) → Bool := fun _ ds => decide (uptoBulkAll ds ≤ 1048576)
def OpenSpec.upto (s : _root_.Go.ChangeSpec) : _root_.Go.OpenSpec := { _root_.Go.OpenSpec.ofChange s with cond := some uptoSmall }

/-- 'farshelflaw3.PathSplitMatchesSpec', WHERE WHAT IT READS IS OF BULK AT MOST 1048576: true; the input reads as it did. -/
def pathSplitMatchesSpecUptoRow : OpenClaim := { program := "ytmjpcpnjppmnkaadoor", sum := "63b2285379082712cd8f5f2883e74b327d363768883c63fdc925bbdfe8eb1d3f", func := "farshelf/farshelflaw3.PathSplitMatchesSpec", spec := "pathSplitMatchesSpec", inPlace := ["internal/bytealg.CountString", "internal/bytealg.IndexByteString", "internal/bytealg.IndexString"], unfollowed := true, recurses := true, named := ["unicode/utf8.first", "unicode/utf8.acceptRanges", "internal/bytealg.MaxLen"], apart := false, laid := [("unicode/utf8.acceptRanges", laid_unicode_utf8_acceptRanges), ("unicode/utf8.first", laid_unicode_utf8_first)], narrowed := true }
def PathSplitMatchesSpecUptoSaid : Prop := pathSplitMatchesSpecUptoRow.holds Tryd.pinned (OpenSpec.upto pathSplitMatchesSpecSpec)

/-- 'farshelflaw3.PathCleanMatchesSpec', WHERE WHAT IT READS IS OF BULK AT MOST 1048576: true; the input reads as it did. -/
def pathCleanMatchesSpecUptoRow : OpenClaim := { program := "ytmjpcpnjppmnkaadoor", sum := "63b2285379082712cd8f5f2883e74b327d363768883c63fdc925bbdfe8eb1d3f", func := "farshelf/farshelflaw3.PathCleanMatchesSpec", spec := "pathCleanMatchesSpec", inPlace := ["internal/bytealg.CountString", "internal/bytealg.IndexByteString", "internal/bytealg.IndexString", "internal/abi.NoEscape", "internal/bytealg.MakeNoZero"], unfollowed := true, recurses := true, named := ["unicode/utf8.first", "unicode/utf8.acceptRanges", "internal/bytealg.MaxLen"], apart := false, laid := [("unicode/utf8.acceptRanges", laid_unicode_utf8_acceptRanges), ("unicode/utf8.first", laid_unicode_utf8_first)], narrowed := true }
def PathCleanMatchesSpecUptoSaid : Prop := pathCleanMatchesSpecUptoRow.holds Tryd.pinned (OpenSpec.upto pathCleanMatchesSpecSpec)

/-- 'farshelflaw3.PathContainsMatchesSpec', WHERE WHAT IT READS IS OF BULK AT MOST 1048576: true; the input reads as it did. -/
def pathContainsMatchesSpecUptoRow : OpenClaim := { program := "ytmjpcpnjppmnkaadoor", sum := "63b2285379082712cd8f5f2883e74b327d363768883c63fdc925bbdfe8eb1d3f", func := "farshelf/farshelflaw3.PathContainsMatchesSpec", spec := "pathContainsMatchesSpec", inPlace := ["internal/bytealg.CountString", "internal/bytealg.IndexByteString", "internal/bytealg.IndexString"], unfollowed := true, recurses := true, named := ["unicode/utf8.first", "unicode/utf8.acceptRanges", "internal/bytealg.MaxLen"], apart := false, laid := [("unicode/utf8.acceptRanges", laid_unicode_utf8_acceptRanges), ("unicode/utf8.first", laid_unicode_utf8_first)], narrowed := true }
def PathContainsMatchesSpecUptoSaid : Prop := pathContainsMatchesSpecUptoRow.holds Tryd.pinned (OpenSpec.upto pathContainsMatchesSpecSpec)

/-- 'farshelflaw3.PathRoundTrip', WHERE WHAT IT READS IS OF BULK AT MOST 1048576: true; the input reads as it did. -/
def pathRoundTripUptoRow : OpenClaim := { program := "ytmjpcpnjppmnkaadoor", sum := "63b2285379082712cd8f5f2883e74b327d363768883c63fdc925bbdfe8eb1d3f", func := "farshelf/farshelflaw3.PathRoundTrip", spec := "pathRoundTrip", inPlace := ["internal/abi.NoEscape", "internal/bytealg.MakeNoZero", "internal/bytealg.CountString", "internal/bytealg.IndexByteString", "internal/bytealg.IndexString"], unfollowed := true, recurses := true, named := ["unicode/utf8.first", "unicode/utf8.acceptRanges", "internal/bytealg.MaxLen"], apart := false, laid := [("unicode/utf8.acceptRanges", laid_unicode_utf8_acceptRanges), ("unicode/utf8.first", laid_unicode_utf8_first)], narrowed := true }
def PathRoundTripUptoSaid : Prop := pathRoundTripUptoRow.holds Tryd.pinned (OpenSpec.upto pathRoundTripSpec)

/-- 'farshelflaw3.PathContainsIsPartialOrder', WHERE WHAT IT READS IS OF BULK AT MOST 1048576: true; the input reads as it did. -/
def pathContainsIsPartialOrderUptoRow : OpenClaim := { program := "ytmjpcpnjppmnkaadoor", sum := "63b2285379082712cd8f5f2883e74b327d363768883c63fdc925bbdfe8eb1d3f", func := "farshelf/farshelflaw3.PathContainsIsPartialOrder", spec := "pathContainsIsPartialOrder", inPlace := ["internal/bytealg.CountString", "internal/bytealg.IndexByteString", "internal/bytealg.IndexString"], unfollowed := true, recurses := true, named := ["unicode/utf8.first", "unicode/utf8.acceptRanges", "internal/bytealg.MaxLen"], apart := false, laid := [("unicode/utf8.acceptRanges", laid_unicode_utf8_acceptRanges), ("unicode/utf8.first", laid_unicode_utf8_first)], narrowed := true }
def PathContainsIsPartialOrderUptoSaid : Prop := pathContainsIsPartialOrderUptoRow.holds Tryd.pinned (OpenSpec.upto pathContainsIsPartialOrderSpec)

end Rows
end Go.Proofs.YtmjpcpnjppmnkaaDoor
