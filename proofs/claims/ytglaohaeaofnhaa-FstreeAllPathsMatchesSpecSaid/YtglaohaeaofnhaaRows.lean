/-
  No cell of these rows narrows 'for every input' (looked for: loops, veiled, ifaces, maps, wideKeys, modest, calm, conditions, laid).
  DERIVED. THE GIVEN ROWS OF THIS SEAT. 3 by the template 'for every input the law returns true; each argument reads behind the call as it read before'; 0 by the template 'total and deterministic' (their statements: YtglaohaeaofnhaaTotals.lean).
  GIVEN WITH THE SEED: the statements are not yours to turn. If you find one false, say at which input.
  Laid BY PROGRAM, IN A SANDBOX (cutbox-rows.mjs): the forced cells as the released guide's own fill.sh prints them over the translation 497927dae8cb7ea8… (all of the seat's roots in one cut). By AI agents, Wed Nov 11 2026. No macro, syntax, notation, axiom, sorry.
-/
import Derived.Test.YtglaohaeaofnhaaChecked
import GoSem.Claim
import GoSem.ClaimJoined
import GoSem.ClaimMapViews
import Derived.JoinedTies
import Derived.KernelRfl
namespace Go.Proofs.Ytglaohaeaofnhaa
/- THE CELL 'sum', in the pinned program and in every row, IS THE sha256 OF THE DUMP (.gsa) THAT YtglaohaeaofnhaaProg.lean LOADS. Nothing in Lean hashes anything: it is a label: what it is worth is what the hold of that sum in a sandbox is worth. -/
noncomputable def Try.pinned : Pinned := { name := "ytglaohaeaofnhaa", sum := "497927dae8cb7ea804be60f44249e3335441cf2e2401062a2e06c734109a8598", checked := Try.checked }
namespace Rows
def none {H : Type} : Left H := { results := [], args := [] }

/-- 'farshelflaw3.FstreeValidateMatchesSpec': WHATEVER THE INPUT: true; the input reads as it did. -/
def fstreeValidateMatchesSpecSpec : ChangeSpec := { name := "fstreeValidateMatchesSpec", fn := fun _ => fun
  | [d] => { results := [.lit (.bool true)], args := [d] }
  | _ => none }
def fstreeValidateMatchesSpecRow : OpenClaim := { program := "ytglaohaeaofnhaa", sum := "497927dae8cb7ea804be60f44249e3335441cf2e2401062a2e06c734109a8598", func := "farshelf/farshelflaw3.FstreeValidateMatchesSpec", spec := "fstreeValidateMatchesSpec", inPlace := ["internal/abi.NoEscape", "internal/bytealg.MakeNoZero"], unfollowed := true, recurses := true, apart := false }
def FstreeValidateMatchesSpecSaid : Prop := fstreeValidateMatchesSpecRow.holds Try.pinned (OpenSpec.ofChange fstreeValidateMatchesSpecSpec)

/-- ITS FALSE NEIGHBOUR: 'it returns false'. Refute it at one input. -/
def fstreeValidateMatchesSpecWrong : ChangeSpec := { name := "fstreeValidateMatchesSpec", fn := fun _ => fun
  | [d] => { results := [.lit (.bool false)], args := [d] }
  | _ => none }
def FstreeValidateMatchesSpecWrongFalsely : Prop := fstreeValidateMatchesSpecRow.holds Try.pinned (OpenSpec.ofChange fstreeValidateMatchesSpecWrong)

/-- 'farshelflaw3.FstreePathsOfMatchesSpec': WHATEVER THE INPUT: true; the input reads as it did. -/
def fstreePathsOfMatchesSpecSpec : ChangeSpec := { name := "fstreePathsOfMatchesSpec", fn := fun _ => fun
  | [d1, d2] => { results := [.lit (.bool true)], args := [d1, d2] }
  | _ => none }
def fstreePathsOfMatchesSpecRow : OpenClaim := { program := "ytglaohaeaofnhaa", sum := "497927dae8cb7ea804be60f44249e3335441cf2e2401062a2e06c734109a8598", func := "farshelf/farshelflaw3.FstreePathsOfMatchesSpec", spec := "fstreePathsOfMatchesSpec", inPlace := ["internal/abi.NoEscape", "internal/bytealg.MakeNoZero"], unfollowed := true, recurses := true, apart := false }
def FstreePathsOfMatchesSpecSaid : Prop := fstreePathsOfMatchesSpecRow.holds Try.pinned (OpenSpec.ofChange fstreePathsOfMatchesSpecSpec)

/-- ITS FALSE NEIGHBOUR: 'it returns false'. Refute it at one input. -/
def fstreePathsOfMatchesSpecWrong : ChangeSpec := { name := "fstreePathsOfMatchesSpec", fn := fun _ => fun
  | [d1, d2] => { results := [.lit (.bool false)], args := [d1, d2] }
  | _ => none }
def FstreePathsOfMatchesSpecWrongFalsely : Prop := fstreePathsOfMatchesSpecRow.holds Try.pinned (OpenSpec.ofChange fstreePathsOfMatchesSpecWrong)

/-- 'farshelflaw3.FstreeAllPathsMatchesSpec': WHATEVER THE INPUT: true; the input reads as it did. -/
def fstreeAllPathsMatchesSpecSpec : ChangeSpec := { name := "fstreeAllPathsMatchesSpec", fn := fun _ => fun
  | [d] => { results := [.lit (.bool true)], args := [d] }
  | _ => none }
def fstreeAllPathsMatchesSpecRow : OpenClaim := { program := "ytglaohaeaofnhaa", sum := "497927dae8cb7ea804be60f44249e3335441cf2e2401062a2e06c734109a8598", func := "farshelf/farshelflaw3.FstreeAllPathsMatchesSpec", spec := "fstreeAllPathsMatchesSpec", inPlace := ["internal/abi.NoEscape", "internal/bytealg.MakeNoZero"], unfollowed := true, recurses := true, apart := false }
def FstreeAllPathsMatchesSpecSaid : Prop := fstreeAllPathsMatchesSpecRow.holds Try.pinned (OpenSpec.ofChange fstreeAllPathsMatchesSpecSpec)

/-- ITS FALSE NEIGHBOUR: 'it returns false'. Refute it at one input. -/
def fstreeAllPathsMatchesSpecWrong : ChangeSpec := { name := "fstreeAllPathsMatchesSpec", fn := fun _ => fun
  | [d] => { results := [.lit (.bool false)], args := [d] }
  | _ => none }
def FstreeAllPathsMatchesSpecWrongFalsely : Prop := fstreeAllPathsMatchesSpecRow.holds Try.pinned (OpenSpec.ofChange fstreeAllPathsMatchesSpecWrong)

/- THE SECOND FORM. 'bulk': how many values and letters a reading holds, each counted each time it is reached (what is shared counts as often as it is met; a slice's spare places count too). A statement '..UptoSaid' is the law's where the arguments, and the package variables that the reading takes, are together of bulk at most 1048576: NARROWER than '..Said'. Prove '..Said' where nothing that the law and all that it calls make is longer than what came in: it says more and counts as full. Else prove '..UptoSaid'. A law counts once. -/
mutual
def uptoBulk {H : Type} : DataW H → Nat
  | .lit (.string bytes) => bytes.length + 1
  | .lit _ => 1
  | .nil => 1
  | .ptr d => uptoBulk d + 1
  | .slice elems spare => uptoBulkAll elems + uptoBulkAll spare + 1
  | .agg parts => uptoBulkAll parts + 1
  | .iface _ d => uptoBulk d + 1
  | .map entries => uptoBulkEntries entries + 1
  | .held _ => 1
def uptoBulkAll {H : Type} : List (DataW H) → Nat
  | [] => 0
  | d :: r => uptoBulk d + uptoBulkAll r
def uptoBulkEntries {H : Type} : List (Lit × DataW H) → Nat
  | [] => 0
  | x :: r => uptoBulkEntry x + uptoBulkEntries r
def uptoBulkEntry {H : Type} : Lit × DataW H → Nat
  | (.string bytes, d) => bytes.length + uptoBulk d + 1
  | (_, d) => uptoBulk d + 1
 end
def uptoSmall : (H : Type) → List (DataW H) → Bool := fun _ ds => decide (uptoBulkAll ds ≤ 1048576)
def OpenSpec.upto (s : _root_.Go.ChangeSpec) : _root_.Go.OpenSpec := { _root_.Go.OpenSpec.ofChange s with cond := some uptoSmall }

/-- 'farshelflaw3.FstreeValidateMatchesSpec', WHERE WHAT IT READS IS OF BULK AT MOST 1048576: true; the input reads as it did. -/
def fstreeValidateMatchesSpecUptoRow : OpenClaim := { program := "ytglaohaeaofnhaa", sum := "497927dae8cb7ea804be60f44249e3335441cf2e2401062a2e06c734109a8598", func := "farshelf/farshelflaw3.FstreeValidateMatchesSpec", spec := "fstreeValidateMatchesSpec", inPlace := ["internal/abi.NoEscape", "internal/bytealg.MakeNoZero"], unfollowed := true, recurses := true, apart := false, narrowed := true }
def FstreeValidateMatchesSpecUptoSaid : Prop := fstreeValidateMatchesSpecUptoRow.holds Try.pinned (OpenSpec.upto fstreeValidateMatchesSpecSpec)

/-- 'farshelflaw3.FstreePathsOfMatchesSpec', WHERE WHAT IT READS IS OF BULK AT MOST 1048576: true; the input reads as it did. -/
def fstreePathsOfMatchesSpecUptoRow : OpenClaim := { program := "ytglaohaeaofnhaa", sum := "497927dae8cb7ea804be60f44249e3335441cf2e2401062a2e06c734109a8598", func := "farshelf/farshelflaw3.FstreePathsOfMatchesSpec", spec := "fstreePathsOfMatchesSpec", inPlace := ["internal/abi.NoEscape", "internal/bytealg.MakeNoZero"], unfollowed := true, recurses := true, apart := false, narrowed := true }
def FstreePathsOfMatchesSpecUptoSaid : Prop := fstreePathsOfMatchesSpecUptoRow.holds Try.pinned (OpenSpec.upto fstreePathsOfMatchesSpecSpec)

/-- 'farshelflaw3.FstreeAllPathsMatchesSpec', WHERE WHAT IT READS IS OF BULK AT MOST 1048576: true; the input reads as it did. -/
def fstreeAllPathsMatchesSpecUptoRow : OpenClaim := { program := "ytglaohaeaofnhaa", sum := "497927dae8cb7ea804be60f44249e3335441cf2e2401062a2e06c734109a8598", func := "farshelf/farshelflaw3.FstreeAllPathsMatchesSpec", spec := "fstreeAllPathsMatchesSpec", inPlace := ["internal/abi.NoEscape", "internal/bytealg.MakeNoZero"], unfollowed := true, recurses := true, apart := false, narrowed := true }
def FstreeAllPathsMatchesSpecUptoSaid : Prop := fstreeAllPathsMatchesSpecUptoRow.holds Try.pinned (OpenSpec.upto fstreeAllPathsMatchesSpecSpec)

end Rows
end Go.Proofs.Ytglaohaeaofnhaa
