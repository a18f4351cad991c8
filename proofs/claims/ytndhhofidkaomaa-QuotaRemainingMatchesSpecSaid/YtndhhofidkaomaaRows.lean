/-
  No cell of these rows narrows 'for every input' (looked for: loops, veiled, ifaces, maps, wideKeys, modest, calm, conditions, laid).
  DERIVED. THE GIVEN ROWS OF THIS SEAT. 5 by the template 'for every input the law returns true; each argument reads behind the call as it read before'; 0 by the template 'total and deterministic' (their statements: YtndhhofidkaomaaTotals.lean).
  GIVEN WITH THE SEED: the statements are not yours to turn. If you find one false, say at which input.
  Laid BY PROGRAM, IN A SANDBOX (cutbox-rows.mjs): the forced cells as the released guide's own fill.sh prints them over the translation f0c90d79c690a013… (all of the seat's roots in one cut). By AI agents, Wed Nov 11 2026. No macro, syntax, notation, axiom, sorry.
-/
import Derived.Test.YtndhhofidkaomaaChecked
import GoSem.Claim
import GoSem.ClaimJoined
import GoSem.ClaimMapViews
import Derived.JoinedTies
import Derived.KernelRfl
namespace Go.Proofs.Ytndhhofidkaomaa
/- THE CELL 'sum', in the pinned program and in every row, IS THE sha256 OF THE DUMP (.gsa) THAT YtndhhofidkaomaaProg.lean LOADS. Nothing in Lean hashes anything: it is a label: what it is worth is what the hold of that sum in a sandbox is worth. -/
noncomputable def Try.pinned : Pinned := { name := "ytndhhofidkaomaa", sum := "f0c90d79c690a013430476d6b0f0b2fa1a2650b93aed7cebafd99436c85209ad", checked := Try.checked }
namespace Rows
def none {H : Type} : Left H := { results := [], args := [] }

/-- 'farshelflaw4.QuotaUsageMatchesSpec': WHATEVER THE INPUT: true; the input reads as it did. -/
def quotaUsageMatchesSpecSpec : ChangeSpec := { name := "quotaUsageMatchesSpec", fn := fun _ => fun
  | [d] => { results := [.lit (.bool true)], args := [d] }
  | _ => none }
def quotaUsageMatchesSpecRow : OpenClaim := { program := "ytndhhofidkaomaa", sum := "f0c90d79c690a013430476d6b0f0b2fa1a2650b93aed7cebafd99436c85209ad", func := "farshelf/farshelflaw4.QuotaUsageMatchesSpec", spec := "quotaUsageMatchesSpec", inPlace := ["internal/abi.NoEscape", "internal/bytealg.MakeNoZero"], unfollowed := true, recurses := true, apart := false }
def QuotaUsageMatchesSpecSaid : Prop := quotaUsageMatchesSpecRow.holds Try.pinned (OpenSpec.ofChange quotaUsageMatchesSpecSpec)

/-- ITS FALSE NEIGHBOUR: 'it returns false'. Refute it at one input. -/
def quotaUsageMatchesSpecWrong : ChangeSpec := { name := "quotaUsageMatchesSpec", fn := fun _ => fun
  | [d] => { results := [.lit (.bool false)], args := [d] }
  | _ => none }
def QuotaUsageMatchesSpecWrongFalsely : Prop := quotaUsageMatchesSpecRow.holds Try.pinned (OpenSpec.ofChange quotaUsageMatchesSpecWrong)

/-- 'farshelflaw4.QuotaExceededMatchesSpec': WHATEVER THE INPUT: true; the input reads as it did. -/
def quotaExceededMatchesSpecSpec : ChangeSpec := { name := "quotaExceededMatchesSpec", fn := fun _ => fun
  | [d1, d2, d3] => { results := [.lit (.bool true)], args := [d1, d2, d3] }
  | _ => none }
def quotaExceededMatchesSpecRow : OpenClaim := { program := "ytndhhofidkaomaa", sum := "f0c90d79c690a013430476d6b0f0b2fa1a2650b93aed7cebafd99436c85209ad", func := "farshelf/farshelflaw4.QuotaExceededMatchesSpec", spec := "quotaExceededMatchesSpec", inPlace := ["internal/abi.NoEscape", "internal/bytealg.MakeNoZero"], unfollowed := true, recurses := true, apart := false }
def QuotaExceededMatchesSpecSaid : Prop := quotaExceededMatchesSpecRow.holds Try.pinned (OpenSpec.ofChange quotaExceededMatchesSpecSpec)

/-- ITS FALSE NEIGHBOUR: 'it returns false'. Refute it at one input. -/
def quotaExceededMatchesSpecWrong : ChangeSpec := { name := "quotaExceededMatchesSpec", fn := fun _ => fun
  | [d1, d2, d3] => { results := [.lit (.bool false)], args := [d1, d2, d3] }
  | _ => none }
def QuotaExceededMatchesSpecWrongFalsely : Prop := quotaExceededMatchesSpecRow.holds Try.pinned (OpenSpec.ofChange quotaExceededMatchesSpecWrong)

/-- 'farshelflaw4.QuotaRemainingMatchesSpec': WHATEVER THE INPUT: true; the input reads as it did. -/
def quotaRemainingMatchesSpecSpec : ChangeSpec := { name := "quotaRemainingMatchesSpec", fn := fun _ => fun
  | [d1, d2] => { results := [.lit (.bool true)], args := [d1, d2] }
  | _ => none }
def quotaRemainingMatchesSpecRow : OpenClaim := { program := "ytndhhofidkaomaa", sum := "f0c90d79c690a013430476d6b0f0b2fa1a2650b93aed7cebafd99436c85209ad", func := "farshelf/farshelflaw4.QuotaRemainingMatchesSpec", spec := "quotaRemainingMatchesSpec", inPlace := ["internal/abi.NoEscape", "internal/bytealg.MakeNoZero"], unfollowed := true, recurses := true, apart := false }
def QuotaRemainingMatchesSpecSaid : Prop := quotaRemainingMatchesSpecRow.holds Try.pinned (OpenSpec.ofChange quotaRemainingMatchesSpecSpec)

/-- ITS FALSE NEIGHBOUR: 'it returns false'. Refute it at one input. -/
def quotaRemainingMatchesSpecWrong : ChangeSpec := { name := "quotaRemainingMatchesSpec", fn := fun _ => fun
  | [d1, d2] => { results := [.lit (.bool false)], args := [d1, d2] }
  | _ => none }
def QuotaRemainingMatchesSpecWrongFalsely : Prop := quotaRemainingMatchesSpecRow.holds Try.pinned (OpenSpec.ofChange quotaRemainingMatchesSpecWrong)

/-- 'farshelflaw4.QuotaByOwnerMatchesSpec': WHATEVER THE INPUT: true; the input reads as it did. -/
def quotaByOwnerMatchesSpecSpec : ChangeSpec := { name := "quotaByOwnerMatchesSpec", fn := fun _ => fun
  | [d] => { results := [.lit (.bool true)], args := [d] }
  | _ => none }
def quotaByOwnerMatchesSpecRow : OpenClaim := { program := "ytndhhofidkaomaa", sum := "f0c90d79c690a013430476d6b0f0b2fa1a2650b93aed7cebafd99436c85209ad", func := "farshelf/farshelflaw4.QuotaByOwnerMatchesSpec", spec := "quotaByOwnerMatchesSpec", inPlace := ["internal/abi.NoEscape", "internal/bytealg.MakeNoZero"], unfollowed := true, recurses := true, apart := false }
def QuotaByOwnerMatchesSpecSaid : Prop := quotaByOwnerMatchesSpecRow.holds Try.pinned (OpenSpec.ofChange quotaByOwnerMatchesSpecSpec)

/-- ITS FALSE NEIGHBOUR: 'it returns false'. Refute it at one input. -/
def quotaByOwnerMatchesSpecWrong : ChangeSpec := { name := "quotaByOwnerMatchesSpec", fn := fun _ => fun
  | [d] => { results := [.lit (.bool false)], args := [d] }
  | _ => none }
def QuotaByOwnerMatchesSpecWrongFalsely : Prop := quotaByOwnerMatchesSpecRow.holds Try.pinned (OpenSpec.ofChange quotaByOwnerMatchesSpecWrong)

/-- 'farshelflaw4.QuotaUsageBounds': WHATEVER THE INPUT: true; the input reads as it did. -/
def quotaUsageBoundsSpec : ChangeSpec := { name := "quotaUsageBounds", fn := fun _ => fun
  | [d] => { results := [.lit (.bool true)], args := [d] }
  | _ => none }
def quotaUsageBoundsRow : OpenClaim := { program := "ytndhhofidkaomaa", sum := "f0c90d79c690a013430476d6b0f0b2fa1a2650b93aed7cebafd99436c85209ad", func := "farshelf/farshelflaw4.QuotaUsageBounds", spec := "quotaUsageBounds", inPlace := ["internal/abi.NoEscape", "internal/bytealg.MakeNoZero"], unfollowed := true, recurses := true, apart := false }
def QuotaUsageBoundsSaid : Prop := quotaUsageBoundsRow.holds Try.pinned (OpenSpec.ofChange quotaUsageBoundsSpec)

/-- ITS FALSE NEIGHBOUR: 'it returns false'. Refute it at one input. -/
def quotaUsageBoundsWrong : ChangeSpec := { name := "quotaUsageBounds", fn := fun _ => fun
  | [d] => { results := [.lit (.bool false)], args := [d] }
  | _ => none }
def QuotaUsageBoundsWrongFalsely : Prop := quotaUsageBoundsRow.holds Try.pinned (OpenSpec.ofChange quotaUsageBoundsWrong)

/- THE SECOND FORM. 'bulk': how many values and letters a reading holds, each counted each time it is reached (what is shared counts as often as it is met; a slice's spare places count too). A statement '..UptoSaid' is the law's where the arguments, and the package variables that the reading takes, are together of bulk at most 1048576: NARROWER than '..Said'. Prove '..Said' where nothing that the law and all that it calls make is longer than what came in: it says more and counts as full. Else prove '..UptoSaid'. A law counts once. -/
mutual
def uptoBulk {H : Type} : DataW H → Nat
  | .lit (.string bytes) => bytes.length + 1
  | .lit _ => 1
  | .nil => 1
  | .ptr d => uptoBulk d + 1
  | .slice elems spare => uptoBulkAll elems + uptoBulkAll spare + 1
  | .agg parts => uptoBulkAll parts + 1
  | .iface _ d => uptoBulk d + 1
  | .map entries => uptoBulkEntries entries + 1
  | .held _ => 1
def uptoBulkAll {H : Type} : List (DataW H) → Nat
  | [] => 0
  | d :: r => uptoBulk d + uptoBulkAll r
def uptoBulkEntries {H : Type} : List (Lit × DataW H) → Nat
  | [] => 0
  | x :: r => uptoBulkEntry x + uptoBulkEntries r
def uptoBulkEntry {H : Type} : Lit × DataW H → Nat
  | (.string bytes, d) => bytes.length + uptoBulk d + 1
  | (_, d) => uptoBulk d + 1
 end
def uptoSmall : (H : Type) → List (DataW H) → Bool := fun _ ds => decide (uptoBulkAll ds ≤ 1048576)
def OpenSpec.upto (s : _root_.Go.ChangeSpec) : _root_.Go.OpenSpec := { _root_.Go.OpenSpec.ofChange s with cond := some uptoSmall }

/-- 'farshelflaw4.QuotaUsageMatchesSpec', WHERE WHAT IT READS IS OF BULK AT MOST 1048576: true; the input reads as it did. -/
def quotaUsageMatchesSpecUptoRow : OpenClaim := { program := "ytndhhofidkaomaa", sum := "f0c90d79c690a013430476d6b0f0b2fa1a2650b93aed7cebafd99436c85209ad", func := "farshelf/farshelflaw4.QuotaUsageMatchesSpec", spec := "quotaUsageMatchesSpec", inPlace := ["internal/abi.NoEscape", "internal/bytealg.MakeNoZero"], unfollowed := true, recurses := true, apart := false, narrowed := true }
def QuotaUsageMatchesSpecUptoSaid : Prop := quotaUsageMatchesSpecUptoRow.holds Try.pinned (OpenSpec.upto quotaUsageMatchesSpecSpec)

/-- 'farshelflaw4.QuotaExceededMatchesSpec', WHERE WHAT IT READS IS OF BULK AT MOST 1048576: true; the input reads as it did. -/
def quotaExceededMatchesSpecUptoRow : OpenClaim := { program := "ytndhhofidkaomaa", sum := "f0c90d79c690a013430476d6b0f0b2fa1a2650b93aed7cebafd99436c85209ad", func := "farshelf/farshelflaw4.QuotaExceededMatchesSpec", spec := "quotaExceededMatchesSpec", inPlace := ["internal/abi.NoEscape", "internal/bytealg.MakeNoZero"], unfollowed := true, recurses := true, apart := false, narrowed := true }
def QuotaExceededMatchesSpecUptoSaid : Prop := quotaExceededMatchesSpecUptoRow.holds Try.pinned (OpenSpec.upto quotaExceededMatchesSpecSpec)

/-- 'farshelflaw4.QuotaRemainingMatchesSpec', WHERE WHAT IT READS IS OF BULK AT MOST 1048576: true; the input reads as it did. -/
def quotaRemainingMatchesSpecUptoRow : OpenClaim := { program := "ytndhhofidkaomaa", sum := "f0c90d79c690a013430476d6b0f0b2fa1a2650b93aed7cebafd99436c85209ad", func := "farshelf/farshelflaw4.QuotaRemainingMatchesSpec", spec := "quotaRemainingMatchesSpec", inPlace := ["internal/abi.NoEscape", "internal/bytealg.MakeNoZero"], unfollowed := true, recurses := true, apart := false, narrowed := true }
def QuotaRemainingMatchesSpecUptoSaid : Prop := quotaRemainingMatchesSpecUptoRow.holds Try.pinned (OpenSpec.upto quotaRemainingMatchesSpecSpec)

/-- 'farshelflaw4.QuotaByOwnerMatchesSpec', WHERE WHAT IT READS IS OF BULK AT MOST 1048576: true; the input reads as it did. -/
def quotaByOwnerMatchesSpecUptoRow : OpenClaim := { program := "ytndhhofidkaomaa", sum := "f0c90d79c690a013430476d6b0f0b2fa1a2650b93aed7cebafd99436c85209ad", func := "farshelf/farshelflaw4.QuotaByOwnerMatchesSpec", spec := "quotaByOwnerMatchesSpec", inPlace := ["internal/abi.NoEscape", "internal/bytealg.MakeNoZero"], unfollowed := true, recurses := true, apart := false, narrowed := true }
def QuotaByOwnerMatchesSpecUptoSaid : Prop := quotaByOwnerMatchesSpecUptoRow.holds Try.pinned (OpenSpec.upto quotaByOwnerMatchesSpecSpec)

/-- 'farshelflaw4.QuotaUsageBounds', WHERE WHAT IT READS IS OF BULK AT MOST 1048576: true; the input reads as it did. -/
def quotaUsageBoundsUptoRow : OpenClaim := { program := "ytndhhofidkaomaa", sum := "f0c90d79c690a013430476d6b0f0b2fa1a2650b93aed7cebafd99436c85209ad", func := "farshelf/farshelflaw4.QuotaUsageBounds", spec := "quotaUsageBounds", inPlace := ["internal/abi.NoEscape", "internal/bytealg.MakeNoZero"], unfollowed := true, recurses := true, apart := false, narrowed := true }
def QuotaUsageBoundsUptoSaid : Prop := quotaUsageBoundsUptoRow.holds Try.pinned (OpenSpec.upto quotaUsageBoundsSpec)

end Rows
end Go.Proofs.Ytndhhofidkaomaa
