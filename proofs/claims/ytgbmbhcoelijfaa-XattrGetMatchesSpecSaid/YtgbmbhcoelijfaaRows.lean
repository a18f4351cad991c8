/-
  No cell of these rows narrows 'for every input' (looked for: loops, veiled, ifaces, maps, wideKeys, modest, calm, conditions, laid).
  DERIVED. THE GIVEN ROWS OF THIS SEAT. 7 by the template 'for every input the law returns true; each argument reads behind the call as it read before'; 0 by the template 'total and deterministic' (their statements: YtgbmbhcoelijfaaTotals.lean).
  GIVEN WITH THE SEED: the statements are not yours to turn. If you find one false, say at which input.
  Laid BY PROGRAM, IN A SANDBOX (cutbox-rows.mjs): the forced cells as the released guide's own fill.sh prints them over the translation 3f4611d3bee6fe1a… (all of the seat's roots in one cut). By AI agents, Wed Nov 11 2026. No macro, syntax, notation, axiom, sorry.
-/
import Derived.Test.YtgbmbhcoelijfaaChecked
import GoSem.Claim
import GoSem.ClaimJoined
import GoSem.ClaimMapViews
import Derived.JoinedTies
import Derived.KernelRfl
namespace Go.Proofs.Ytgbmbhcoelijfaa
/- THE CELL 'sum', in the pinned program and in every row, IS THE sha256 OF THE DUMP (.gsa) THAT YtgbmbhcoelijfaaProg.lean LOADS. Nothing in Lean hashes anything: it is a label: what it is worth is what the hold of that sum in a sandbox is worth. -/
noncomputable def Try.pinned : Pinned := { name := "ytgbmbhcoelijfaa", sum := "3f4611d3bee6fe1a89baf6330bba02aabf9bf6e2cce5417b5e703e130cd76952", checked := Try.checked }
namespace Rows
def none {H : Type} : Left H := { results := [], args := [] }

/-- 'farshelflaw3.XattrValidateMatchesSpec': WHATEVER THE INPUT: true; the input reads as it did. -/
def xattrValidateMatchesSpecSpec : ChangeSpec := { name := "xattrValidateMatchesSpec", fn := fun _ => fun
  | [d] => { results := [.lit (.bool true)], args := [d] }
  | _ => none }
def xattrValidateMatchesSpecRow : OpenClaim := { program := "ytgbmbhcoelijfaa", sum := "3f4611d3bee6fe1a89baf6330bba02aabf9bf6e2cce5417b5e703e130cd76952", func := "farshelf/farshelflaw3.XattrValidateMatchesSpec", spec := "xattrValidateMatchesSpec", inPlace := ["internal/abi.NoEscape", "internal/bytealg.MakeNoZero"], unfollowed := true, recurses := true, apart := false }
def XattrValidateMatchesSpecSaid : Prop := xattrValidateMatchesSpecRow.holds Try.pinned (OpenSpec.ofChange xattrValidateMatchesSpecSpec)

/-- ITS FALSE NEIGHBOUR: 'it returns false'. Refute it at one input. -/
def xattrValidateMatchesSpecWrong : ChangeSpec := { name := "xattrValidateMatchesSpec", fn := fun _ => fun
  | [d] => { results := [.lit (.bool false)], args := [d] }
  | _ => none }
def XattrValidateMatchesSpecWrongFalsely : Prop := xattrValidateMatchesSpecRow.holds Try.pinned (OpenSpec.ofChange xattrValidateMatchesSpecWrong)

/-- 'farshelflaw3.XattrGetMatchesSpec': WHATEVER THE INPUT: true; the input reads as it did. -/
def xattrGetMatchesSpecSpec : ChangeSpec := { name := "xattrGetMatchesSpec", fn := fun _ => fun
  | [d1, d2] => { results := [.lit (.bool true)], args := [d1, d2] }
  | _ => none }
def xattrGetMatchesSpecRow : OpenClaim := { program := "ytgbmbhcoelijfaa", sum := "3f4611d3bee6fe1a89baf6330bba02aabf9bf6e2cce5417b5e703e130cd76952", func := "farshelf/farshelflaw3.XattrGetMatchesSpec", spec := "xattrGetMatchesSpec", inPlace := ["internal/abi.NoEscape", "internal/bytealg.MakeNoZero"], unfollowed := true, recurses := true, apart := false }
def XattrGetMatchesSpecSaid : Prop := xattrGetMatchesSpecRow.holds Try.pinned (OpenSpec.ofChange xattrGetMatchesSpecSpec)

/-- ITS FALSE NEIGHBOUR: 'it returns false'. Refute it at one input. -/
def xattrGetMatchesSpecWrong : ChangeSpec := { name := "xattrGetMatchesSpec", fn := fun _ => fun
  | [d1, d2] => { results := [.lit (.bool false)], args := [d1, d2] }
  | _ => none }
def XattrGetMatchesSpecWrongFalsely : Prop := xattrGetMatchesSpecRow.holds Try.pinned (OpenSpec.ofChange xattrGetMatchesSpecWrong)

/-- 'farshelflaw3.XattrSetMatchesSpec': WHATEVER THE INPUT: true; the input reads as it did. -/
def xattrSetMatchesSpecSpec : ChangeSpec := { name := "xattrSetMatchesSpec", fn := fun _ => fun
  | [d1, d2] => { results := [.lit (.bool true)], args := [d1, d2] }
  | _ => none }
def xattrSetMatchesSpecRow : OpenClaim := { program := "ytgbmbhcoelijfaa", sum := "3f4611d3bee6fe1a89baf6330bba02aabf9bf6e2cce5417b5e703e130cd76952", func := "farshelf/farshelflaw3.XattrSetMatchesSpec", spec := "xattrSetMatchesSpec", inPlace := ["internal/abi.NoEscape", "internal/bytealg.MakeNoZero"], unfollowed := true, recurses := true, apart := false }
def XattrSetMatchesSpecSaid : Prop := xattrSetMatchesSpecRow.holds Try.pinned (OpenSpec.ofChange xattrSetMatchesSpecSpec)

/-- ITS FALSE NEIGHBOUR: 'it returns false'. Refute it at one input. -/
def xattrSetMatchesSpecWrong : ChangeSpec := { name := "xattrSetMatchesSpec", fn := fun _ => fun
  | [d1, d2] => { results := [.lit (.bool false)], args := [d1, d2] }
  | _ => none }
def XattrSetMatchesSpecWrongFalsely : Prop := xattrSetMatchesSpecRow.holds Try.pinned (OpenSpec.ofChange xattrSetMatchesSpecWrong)

/-- 'farshelflaw3.XattrDiffMatchesSpec': WHATEVER THE INPUT: true; the input reads as it did. -/
def xattrDiffMatchesSpecSpec : ChangeSpec := { name := "xattrDiffMatchesSpec", fn := fun _ => fun
  | [d1, d2] => { results := [.lit (.bool true)], args := [d1, d2] }
  | _ => none }
def xattrDiffMatchesSpecRow : OpenClaim := { program := "ytgbmbhcoelijfaa", sum := "3f4611d3bee6fe1a89baf6330bba02aabf9bf6e2cce5417b5e703e130cd76952", func := "farshelf/farshelflaw3.XattrDiffMatchesSpec", spec := "xattrDiffMatchesSpec", inPlace := ["internal/abi.NoEscape", "internal/bytealg.MakeNoZero"], unfollowed := true, recurses := true, apart := false }
def XattrDiffMatchesSpecSaid : Prop := xattrDiffMatchesSpecRow.holds Try.pinned (OpenSpec.ofChange xattrDiffMatchesSpecSpec)

/-- ITS FALSE NEIGHBOUR: 'it returns false'. Refute it at one input. -/
def xattrDiffMatchesSpecWrong : ChangeSpec := { name := "xattrDiffMatchesSpec", fn := fun _ => fun
  | [d1, d2] => { results := [.lit (.bool false)], args := [d1, d2] }
  | _ => none }
def XattrDiffMatchesSpecWrongFalsely : Prop := xattrDiffMatchesSpecRow.holds Try.pinned (OpenSpec.ofChange xattrDiffMatchesSpecWrong)

/-- 'farshelflaw3.XattrMergeMatchesSpec': WHATEVER THE INPUT: true; the input reads as it did. -/
def xattrMergeMatchesSpecSpec : ChangeSpec := { name := "xattrMergeMatchesSpec", fn := fun _ => fun
  | [d1, d2, d3] => { results := [.lit (.bool true)], args := [d1, d2, d3] }
  | _ => none }
def xattrMergeMatchesSpecRow : OpenClaim := { program := "ytgbmbhcoelijfaa", sum := "3f4611d3bee6fe1a89baf6330bba02aabf9bf6e2cce5417b5e703e130cd76952", func := "farshelf/farshelflaw3.XattrMergeMatchesSpec", spec := "xattrMergeMatchesSpec", inPlace := ["internal/abi.NoEscape", "internal/bytealg.MakeNoZero"], unfollowed := true, recurses := true, apart := false }
def XattrMergeMatchesSpecSaid : Prop := xattrMergeMatchesSpecRow.holds Try.pinned (OpenSpec.ofChange xattrMergeMatchesSpecSpec)

/-- ITS FALSE NEIGHBOUR: 'it returns false'. Refute it at one input. -/
def xattrMergeMatchesSpecWrong : ChangeSpec := { name := "xattrMergeMatchesSpec", fn := fun _ => fun
  | [d1, d2, d3] => { results := [.lit (.bool false)], args := [d1, d2, d3] }
  | _ => none }
def XattrMergeMatchesSpecWrongFalsely : Prop := xattrMergeMatchesSpecRow.holds Try.pinned (OpenSpec.ofChange xattrMergeMatchesSpecWrong)

/-- 'farshelflaw3.XattrDiffPatches': WHATEVER THE INPUT: true; the input reads as it did. -/
def xattrDiffPatchesSpec : ChangeSpec := { name := "xattrDiffPatches", fn := fun _ => fun
  | [d1, d2] => { results := [.lit (.bool true)], args := [d1, d2] }
  | _ => none }
def xattrDiffPatchesRow : OpenClaim := { program := "ytgbmbhcoelijfaa", sum := "3f4611d3bee6fe1a89baf6330bba02aabf9bf6e2cce5417b5e703e130cd76952", func := "farshelf/farshelflaw3.XattrDiffPatches", spec := "xattrDiffPatches", inPlace := ["internal/abi.NoEscape", "internal/bytealg.MakeNoZero"], unfollowed := true, recurses := true, apart := false }
def XattrDiffPatchesSaid : Prop := xattrDiffPatchesRow.holds Try.pinned (OpenSpec.ofChange xattrDiffPatchesSpec)

/-- ITS FALSE NEIGHBOUR: 'it returns false'. Refute it at one input. -/
def xattrDiffPatchesWrong : ChangeSpec := { name := "xattrDiffPatches", fn := fun _ => fun
  | [d1, d2] => { results := [.lit (.bool false)], args := [d1, d2] }
  | _ => none }
def XattrDiffPatchesWrongFalsely : Prop := xattrDiffPatchesRow.holds Try.pinned (OpenSpec.ofChange xattrDiffPatchesWrong)

/-- 'farshelflaw3.XattrMergeSymmetric': WHATEVER THE INPUT: true; the input reads as it did. -/
def xattrMergeSymmetricSpec : ChangeSpec := { name := "xattrMergeSymmetric", fn := fun _ => fun
  | [d1, d2, d3] => { results := [.lit (.bool true)], args := [d1, d2, d3] }
  | _ => none }
def xattrMergeSymmetricRow : OpenClaim := { program := "ytgbmbhcoelijfaa", sum := "3f4611d3bee6fe1a89baf6330bba02aabf9bf6e2cce5417b5e703e130cd76952", func := "farshelf/farshelflaw3.XattrMergeSymmetric", spec := "xattrMergeSymmetric", inPlace := ["internal/abi.NoEscape", "internal/bytealg.MakeNoZero"], unfollowed := true, recurses := true, apart := false }
def XattrMergeSymmetricSaid : Prop := xattrMergeSymmetricRow.holds Try.pinned (OpenSpec.ofChange xattrMergeSymmetricSpec)

/-- ITS FALSE NEIGHBOUR: 'it returns false'. Refute it at one input. -/
def xattrMergeSymmetricWrong : ChangeSpec := { name := "xattrMergeSymmetric", fn := fun _ => fun
  | [d1, d2, d3] => { results := [.lit (.bool false)], args := [d1, d2, d3] }
  | _ => none }
def XattrMergeSymmetricWrongFalsely : Prop := xattrMergeSymmetricRow.holds Try.pinned (OpenSpec.ofChange xattrMergeSymmetricWrong)

/- THE SECOND FORM. 'bulk': how many values and letters a reading holds, each counted each time it is reached (what is shared counts as often as it is met; a slice's spare places count too). A statement '..UptoSaid' is the law's where the arguments, and the package variables that the reading takes, are together of bulk at most 1048576: NARROWER than '..Said'. Prove '..Said' where nothing that the law and all that it calls make is longer than what came in: it says more and counts as full. Else prove '..UptoSaid'. A law counts once. -/
mutual
def uptoBulk {H : Type} : DataW H → Nat
  | .lit (.string bytes) => bytes.length + 1
  | .lit _ => 1
  | .nil => 1
  | .ptr d => uptoBulk d + 1
  | .slice elems spare => uptoBulkAll elems + uptoBulkAll spare + 1
  | .agg parts => uptoBulkAll parts + 1
  | .iface _ d => uptoBulk d + 1
  | .map entries => uptoBulkEntries entries + 1
  | .held _ => 1
def uptoBulkAll {H : Type} : List (DataW H) → Nat
  | [] => 0
  | d :: r => uptoBulk d + uptoBulkAll r
def uptoBulkEntries {H : Type} : List (Lit × DataW H) → Nat
  | [] => 0
  | x :: r => uptoBulkEntry x + uptoBulkEntries r
def uptoBulkEntry {H : Type} : Lit × DataW H → Nat
  | (.string bytes, d) => bytes.length + uptoBulk d + 1
  | (_, d) => uptoBulk d + 1
 end
def uptoSmall : (H : Type) → List (DataW H) → Bool := fun _ ds => decide (uptoBulkAll ds ≤ 1048576)
def OpenSpec.upto (s : _root_.Go.ChangeSpec) : _root_.Go.OpenSpec := { _root_.Go.OpenSpec.ofChange s with cond := some uptoSmall }

/-- 'farshelflaw3.XattrValidateMatchesSpec', WHERE WHAT IT READS IS OF BULK AT MOST 1048576: true; the input reads as it did. -/
def xattrValidateMatchesSpecUptoRow : OpenClaim := { program := "ytgbmbhcoelijfaa", sum := "3f4611d3bee6fe1a89baf6330bba02aabf9bf6e2cce5417b5e703e130cd76952", func := "farshelf/farshelflaw3.XattrValidateMatchesSpec", spec := "xattrValidateMatchesSpec", inPlace := ["internal/abi.NoEscape", "internal/bytealg.MakeNoZero"], unfollowed := true, recurses := true, apart := false, narrowed := true }
def XattrValidateMatchesSpecUptoSaid : Prop := xattrValidateMatchesSpecUptoRow.holds Try.pinned (OpenSpec.upto xattrValidateMatchesSpecSpec)

/-- 'farshelflaw3.XattrGetMatchesSpec', WHERE WHAT IT READS IS OF BULK AT MOST 1048576: true; the input reads as it did. -/
def xattrGetMatchesSpecUptoRow : OpenClaim := { program := "ytgbmbhcoelijfaa", sum := "3f4611d3bee6fe1a89baf6330bba02aabf9bf6e2cce5417b5e703e130cd76952", func := "farshelf/farshelflaw3.XattrGetMatchesSpec", spec := "xattrGetMatchesSpec", inPlace := ["internal/abi.NoEscape", "internal/bytealg.MakeNoZero"], unfollowed := true, recurses := true, apart := false, narrowed := true }
def XattrGetMatchesSpecUptoSaid : Prop := xattrGetMatchesSpecUptoRow.holds Try.pinned (OpenSpec.upto xattrGetMatchesSpecSpec)

/-- 'farshelflaw3.XattrSetMatchesSpec', WHERE WHAT IT READS IS OF BULK AT MOST 1048576: true; the input reads as it did. -/
def xattrSetMatchesSpecUptoRow : OpenClaim := { program := "ytgbmbhcoelijfaa", sum := "3f4611d3bee6fe1a89baf6330bba02aabf9bf6e2cce5417b5e703e130cd76952", func := "farshelf/farshelflaw3.XattrSetMatchesSpec", spec := "xattrSetMatchesSpec", inPlace := ["internal/abi.NoEscape", "internal/bytealg.MakeNoZero"], unfollowed := true, recurses := true, apart := false, narrowed := true }
def XattrSetMatchesSpecUptoSaid : Prop := xattrSetMatchesSpecUptoRow.holds Try.pinned (OpenSpec.upto xattrSetMatchesSpecSpec)

/-- 'farshelflaw3.XattrDiffMatchesSpec', WHERE WHAT IT READS IS OF BULK AT MOST 1048576: true; the input reads as it did. -/
def xattrDiffMatchesSpecUptoRow : OpenClaim := { program := "ytgbmbhcoelijfaa", sum := "3f4611d3bee6fe1a89baf6330bba02aabf9bf6e2cce5417b5e703e130cd76952", func := "farshelf/farshelflaw3.XattrDiffMatchesSpec", spec := "xattrDiffMatchesSpec", inPlace := ["internal/abi.NoEscape", "internal/bytealg.MakeNoZero"], unfollowed := true, recurses := true, apart := false, narrowed := true }
def XattrDiffMatchesSpecUptoSaid : Prop := xattrDiffMatchesSpecUptoRow.holds Try.pinned (OpenSpec.upto xattrDiffMatchesSpecSpec)

/-- 'farshelflaw3.XattrMergeMatchesSpec', WHERE WHAT IT READS IS OF BULK AT MOST 1048576: true; the input reads as it did. -/
def xattrMergeMatchesSpecUptoRow : OpenClaim := { program := "ytgbmbhcoelijfaa", sum := "3f4611d3bee6fe1a89baf6330bba02aabf9bf6e2cce5417b5e703e130cd76952", func := "farshelf/farshelflaw3.XattrMergeMatchesSpec", spec := "xattrMergeMatchesSpec", inPlace := ["internal/abi.NoEscape", "internal/bytealg.MakeNoZero"], unfollowed := true, recurses := true, apart := false, narrowed := true }
def XattrMergeMatchesSpecUptoSaid : Prop := xattrMergeMatchesSpecUptoRow.holds Try.pinned (OpenSpec.upto xattrMergeMatchesSpecSpec)

/-- 'farshelflaw3.XattrDiffPatches', WHERE WHAT IT READS IS OF BULK AT MOST 1048576: true; the input reads as it did. -/
def xattrDiffPatchesUptoRow : OpenClaim := { program := "ytgbmbhcoelijfaa", sum := "3f4611d3bee6fe1a89baf6330bba02aabf9bf6e2cce5417b5e703e130cd76952", func := "farshelf/farshelflaw3.XattrDiffPatches", spec := "xattrDiffPatches", inPlace := ["internal/abi.NoEscape", "internal/bytealg.MakeNoZero"], unfollowed := true, recurses := true, apart := false, narrowed := true }
def XattrDiffPatchesUptoSaid : Prop := xattrDiffPatchesUptoRow.holds Try.pinned (OpenSpec.upto xattrDiffPatchesSpec)

/-- 'farshelflaw3.XattrMergeSymmetric', WHERE WHAT IT READS IS OF BULK AT MOST 1048576: true; the input reads as it did. -/
def xattrMergeSymmetricUptoRow : OpenClaim := { program := "ytgbmbhcoelijfaa", sum := "3f4611d3bee6fe1a89baf6330bba02aabf9bf6e2cce5417b5e703e130cd76952", func := "farshelf/farshelflaw3.XattrMergeSymmetric", spec := "xattrMergeSymmetric", inPlace := ["internal/abi.NoEscape", "internal/bytealg.MakeNoZero"], unfollowed := true, recurses := true, apart := false, narrowed := true }
def XattrMergeSymmetricUptoSaid : Prop := xattrMergeSymmetricUptoRow.holds Try.pinned (OpenSpec.upto xattrMergeSymmetricSpec)

end Rows
end Go.Proofs.Ytgbmbhcoelijfaa
