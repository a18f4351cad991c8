/-
  No cell of these rows narrows 'for every input' (looked for: loops, veiled, ifaces, maps, wideKeys, modest, calm, conditions, laid).
  DERIVED. THE GIVEN ROWS OF THIS SEAT. 6 by the template 'for every input the law returns true; each argument reads behind the call as it read before'; 0 by the template 'total and deterministic' (their statements: YtbmcfhojhngpkaaTotals.lean).
  GIVEN WITH THE SEED: the statements are not yours to turn. If you find one false, say at which input.
  Laid BY PROGRAM, IN A SANDBOX (cutbox-rows.mjs): the forced cells as the released guide's own fill.sh prints them over the translation 13267502bd80092a… (all of the seat's roots in one cut). By AI agents, Wed Nov 11 2026. No macro, syntax, notation, axiom, sorry.
-/
import Derived.Test.YtbmcfhojhngpkaaChecked
import GoSem.Claim
import GoSem.ClaimJoined
import GoSem.ClaimMapViews
import Derived.JoinedTies
import Derived.KernelRfl
namespace Go.Proofs.Ytbmcfhojhngpkaa
/- THE CELL 'sum', in the pinned program and in every row, IS THE sha256 OF THE DUMP (.gsa) THAT YtbmcfhojhngpkaaProg.lean LOADS. Nothing in Lean hashes anything: it is a label: what it is worth is what the hold of that sum in a sandbox is worth. -/
noncomputable def Try.pinned : Pinned := { name := "ytbmcfhojhngpkaa", sum := "13267502bd80092a21944a1390b9a94b5f750adbef200783287eb971f3c55086", checked := Try.checked }
namespace Rows
def none {H : Type} : Left H := { results := [], args := [] }

/-- 'farshelflaw3.ACLValidateMatchesSpec': WHATEVER THE INPUT: true; the input reads as it did. -/
def aCLValidateMatchesSpecSpec : ChangeSpec := { name := "aCLValidateMatchesSpec", fn := fun _ => fun
  | [d] => { results := [.lit (.bool true)], args := [d] }
  | _ => none }
def aCLValidateMatchesSpecRow : OpenClaim := { program := "ytbmcfhojhngpkaa", sum := "13267502bd80092a21944a1390b9a94b5f750adbef200783287eb971f3c55086", func := "farshelf/farshelflaw3.ACLValidateMatchesSpec", spec := "aCLValidateMatchesSpec", unfollowed := true, recurses := true, apart := false }
def ACLValidateMatchesSpecSaid : Prop := aCLValidateMatchesSpecRow.holds Try.pinned (OpenSpec.ofChange aCLValidateMatchesSpecSpec)

/-- ITS FALSE NEIGHBOUR: 'it returns false'. Refute it at one input. -/
def aCLValidateMatchesSpecWrong : ChangeSpec := { name := "aCLValidateMatchesSpec", fn := fun _ => fun
  | [d] => { results := [.lit (.bool false)], args := [d] }
  | _ => none }
def ACLValidateMatchesSpecWrongFalsely : Prop := aCLValidateMatchesSpecRow.holds Try.pinned (OpenSpec.ofChange aCLValidateMatchesSpecWrong)

/-- 'farshelflaw3.ACLAllowedMatchesSpec': WHATEVER THE INPUT: true; the input reads as it did. -/
def aCLAllowedMatchesSpecSpec : ChangeSpec := { name := "aCLAllowedMatchesSpec", fn := fun _ => fun
  | [d1, d2, d3, d4] => { results := [.lit (.bool true)], args := [d1, d2, d3, d4] }
  | _ => none }
def aCLAllowedMatchesSpecRow : OpenClaim := { program := "ytbmcfhojhngpkaa", sum := "13267502bd80092a21944a1390b9a94b5f750adbef200783287eb971f3c55086", func := "farshelf/farshelflaw3.ACLAllowedMatchesSpec", spec := "aCLAllowedMatchesSpec", unfollowed := true, recurses := true, apart := false }
def ACLAllowedMatchesSpecSaid : Prop := aCLAllowedMatchesSpecRow.holds Try.pinned (OpenSpec.ofChange aCLAllowedMatchesSpecSpec)

/-- ITS FALSE NEIGHBOUR: 'it returns false'. Refute it at one input. -/
def aCLAllowedMatchesSpecWrong : ChangeSpec := { name := "aCLAllowedMatchesSpec", fn := fun _ => fun
  | [d1, d2, d3, d4] => { results := [.lit (.bool false)], args := [d1, d2, d3, d4] }
  | _ => none }
def ACLAllowedMatchesSpecWrongFalsely : Prop := aCLAllowedMatchesSpecRow.holds Try.pinned (OpenSpec.ofChange aCLAllowedMatchesSpecWrong)

/-- 'farshelflaw3.ACLPermissionsMatchesSpec': WHATEVER THE INPUT: true; the input reads as it did. -/
def aCLPermissionsMatchesSpecSpec : ChangeSpec := { name := "aCLPermissionsMatchesSpec", fn := fun _ => fun
  | [d1, d2] => { results := [.lit (.bool true)], args := [d1, d2] }
  | _ => none }
def aCLPermissionsMatchesSpecRow : OpenClaim := { program := "ytbmcfhojhngpkaa", sum := "13267502bd80092a21944a1390b9a94b5f750adbef200783287eb971f3c55086", func := "farshelf/farshelflaw3.ACLPermissionsMatchesSpec", spec := "aCLPermissionsMatchesSpec", unfollowed := true, recurses := true, apart := false }
def ACLPermissionsMatchesSpecSaid : Prop := aCLPermissionsMatchesSpecRow.holds Try.pinned (OpenSpec.ofChange aCLPermissionsMatchesSpecSpec)

/-- ITS FALSE NEIGHBOUR: 'it returns false'. Refute it at one input. -/
def aCLPermissionsMatchesSpecWrong : ChangeSpec := { name := "aCLPermissionsMatchesSpec", fn := fun _ => fun
  | [d1, d2] => { results := [.lit (.bool false)], args := [d1, d2] }
  | _ => none }
def ACLPermissionsMatchesSpecWrongFalsely : Prop := aCLPermissionsMatchesSpecRow.holds Try.pinned (OpenSpec.ofChange aCLPermissionsMatchesSpecWrong)

/-- 'farshelflaw3.ACLSimplifyMatchesSpec': WHATEVER THE INPUT: true; the input reads as it did. -/
def aCLSimplifyMatchesSpecSpec : ChangeSpec := { name := "aCLSimplifyMatchesSpec", fn := fun _ => fun
  | [d] => { results := [.lit (.bool true)], args := [d] }
  | _ => none }
def aCLSimplifyMatchesSpecRow : OpenClaim := { program := "ytbmcfhojhngpkaa", sum := "13267502bd80092a21944a1390b9a94b5f750adbef200783287eb971f3c55086", func := "farshelf/farshelflaw3.ACLSimplifyMatchesSpec", spec := "aCLSimplifyMatchesSpec", unfollowed := true, recurses := true, apart := false }
def ACLSimplifyMatchesSpecSaid : Prop := aCLSimplifyMatchesSpecRow.holds Try.pinned (OpenSpec.ofChange aCLSimplifyMatchesSpecSpec)

/-- ITS FALSE NEIGHBOUR: 'it returns false'. Refute it at one input. -/
def aCLSimplifyMatchesSpecWrong : ChangeSpec := { name := "aCLSimplifyMatchesSpec", fn := fun _ => fun
  | [d] => { results := [.lit (.bool false)], args := [d] }
  | _ => none }
def ACLSimplifyMatchesSpecWrongFalsely : Prop := aCLSimplifyMatchesSpecRow.holds Try.pinned (OpenSpec.ofChange aCLSimplifyMatchesSpecWrong)

/-- 'farshelflaw3.ACLSimplifyPreservesPermissions': WHATEVER THE INPUT: true; the input reads as it did. -/
def aCLSimplifyPreservesPermissionsSpec : ChangeSpec := { name := "aCLSimplifyPreservesPermissions", fn := fun _ => fun
  | [d1, d2] => { results := [.lit (.bool true)], args := [d1, d2] }
  | _ => none }
def aCLSimplifyPreservesPermissionsRow : OpenClaim := { program := "ytbmcfhojhngpkaa", sum := "13267502bd80092a21944a1390b9a94b5f750adbef200783287eb971f3c55086", func := "farshelf/farshelflaw3.ACLSimplifyPreservesPermissions", spec := "aCLSimplifyPreservesPermissions", unfollowed := true, recurses := true, apart := false }
def ACLSimplifyPreservesPermissionsSaid : Prop := aCLSimplifyPreservesPermissionsRow.holds Try.pinned (OpenSpec.ofChange aCLSimplifyPreservesPermissionsSpec)

/-- ITS FALSE NEIGHBOUR: 'it returns false'. Refute it at one input. -/
def aCLSimplifyPreservesPermissionsWrong : ChangeSpec := { name := "aCLSimplifyPreservesPermissions", fn := fun _ => fun
  | [d1, d2] => { results := [.lit (.bool false)], args := [d1, d2] }
  | _ => none }
def ACLSimplifyPreservesPermissionsWrongFalsely : Prop := aCLSimplifyPreservesPermissionsRow.holds Try.pinned (OpenSpec.ofChange aCLSimplifyPreservesPermissionsWrong)

/-- 'farshelflaw3.ACLFirstEntryWins': WHATEVER THE INPUT: true; the input reads as it did. -/
def aCLFirstEntryWinsSpec : ChangeSpec := { name := "aCLFirstEntryWins", fn := fun _ => fun
  | [d1, d2, d3, d4, d5] => { results := [.lit (.bool true)], args := [d1, d2, d3, d4, d5] }
  | _ => none }
def aCLFirstEntryWinsRow : OpenClaim := { program := "ytbmcfhojhngpkaa", sum := "13267502bd80092a21944a1390b9a94b5f750adbef200783287eb971f3c55086", func := "farshelf/farshelflaw3.ACLFirstEntryWins", spec := "aCLFirstEntryWins", unfollowed := true, recurses := true, apart := false }
def ACLFirstEntryWinsSaid : Prop := aCLFirstEntryWinsRow.holds Try.pinned (OpenSpec.ofChange aCLFirstEntryWinsSpec)

/-- ITS FALSE NEIGHBOUR: 'it returns false'. Refute it at one input. -/
def aCLFirstEntryWinsWrong : ChangeSpec := { name := "aCLFirstEntryWins", fn := fun _ => fun
  | [d1, d2, d3, d4, d5] => { results := [.lit (.bool false)], args := [d1, d2, d3, d4, d5] }
  | _ => none }
def ACLFirstEntryWinsWrongFalsely : Prop := aCLFirstEntryWinsRow.holds Try.pinned (OpenSpec.ofChange aCLFirstEntryWinsWrong)

/- THE SECOND FORM. 'bulk': how many values and letters a reading holds, each counted each time it is reached (what is shared counts as often as it is met; a slice's spare places count too). A statement '..UptoSaid' is the law's where the arguments, and the package variables that the reading takes, are together of bulk at most 1048576: NARROWER than '..Said'. Prove '..Said' where nothing that the law and all that it calls make is longer than what came in: it says more and counts as full. Else prove '..UptoSaid'. A law counts once. -/
mutual
def uptoBulk {H : Type} : DataW H → Nat
  | .lit (.string bytes) => bytes.length + 1
  | .lit _ => 1
  | .nil => 1
  | .ptr d => uptoBulk d + 1
  | .slice elems spare => uptoBulkAll elems + uptoBulkAll spare + 1
  | .agg parts => uptoBulkAll parts + 1
  | .iface _ d => uptoBulk d + 1
  | .map entries => uptoBulkEntries entries + 1
  | .held _ => 1
def uptoBulkAll {H : Type} : List (DataW H) → Nat
  | [] => 0
  | d :: r => uptoBulk d + uptoBulkAll r
def uptoBulkEntries {H : Type} : List (Lit × DataW H) → Nat
  | [] => 0
  | x :: r => uptoBulkEntry x + uptoBulkEntries r
def uptoBulkEntry {H : Type} : Lit × DataW H → Nat
  | (.string bytes, d) => bytes.length + uptoBulk d + 1
  | (_, d) => uptoBulk d + 1
 end
def uptoSmall : (H : Type) → List (DataW H) → Bool := fun _ ds => decide (uptoBulkAll ds ≤ 1048576)
def OpenSpec.upto (s : _root_.Go.ChangeSpec) : _root_.Go.OpenSpec := { _root_.Go.OpenSpec.ofChange s with cond := some uptoSmall }

/-- 'farshelflaw3.ACLValidateMatchesSpec', WHERE WHAT IT READS IS OF BULK AT MOST 1048576: true; the input reads as it did. -/
def aCLValidateMatchesSpecUptoRow : OpenClaim := { program := "ytbmcfhojhngpkaa", sum := "13267502bd80092a21944a1390b9a94b5f750adbef200783287eb971f3c55086", func := "farshelf/farshelflaw3.ACLValidateMatchesSpec", spec := "aCLValidateMatchesSpec", unfollowed := true, recurses := true, apart := false, narrowed := true }
def ACLValidateMatchesSpecUptoSaid : Prop := aCLValidateMatchesSpecUptoRow.holds Try.pinned (OpenSpec.upto aCLValidateMatchesSpecSpec)

/-- 'farshelflaw3.ACLAllowedMatchesSpec', WHERE WHAT IT READS IS OF BULK AT MOST 1048576: true; the input reads as it did. -/
def aCLAllowedMatchesSpecUptoRow : OpenClaim := { program := "ytbmcfhojhngpkaa", sum := "13267502bd80092a21944a1390b9a94b5f750adbef200783287eb971f3c55086", func := "farshelf/farshelflaw3.ACLAllowedMatchesSpec", spec := "aCLAllowedMatchesSpec", unfollowed := true, recurses := true, apart := false, narrowed := true }
def ACLAllowedMatchesSpecUptoSaid : Prop := aCLAllowedMatchesSpecUptoRow.holds Try.pinned (OpenSpec.upto aCLAllowedMatchesSpecSpec)

/-- 'farshelflaw3.ACLPermissionsMatchesSpec', WHERE WHAT IT READS IS OF BULK AT MOST 1048576: true; the input reads as it did. -/
def aCLPermissionsMatchesSpecUptoRow : OpenClaim := { program := "ytbmcfhojhngpkaa", sum := "13267502bd80092a21944a1390b9a94b5f750adbef200783287eb971f3c55086", func := "farshelf/farshelflaw3.ACLPermissionsMatchesSpec", spec := "aCLPermissionsMatchesSpec", unfollowed := true, recurses := true, apart := false, narrowed := true }
def ACLPermissionsMatchesSpecUptoSaid : Prop := aCLPermissionsMatchesSpecUptoRow.holds Try.pinned (OpenSpec.upto aCLPermissionsMatchesSpecSpec)

/-- 'farshelflaw3.ACLSimplifyMatchesSpec', WHERE WHAT IT READS IS OF BULK AT MOST 1048576: true; the input reads as it did. -/
def aCLSimplifyMatchesSpecUptoRow : OpenClaim := { program := "ytbmcfhojhngpkaa", sum := "13267502bd80092a21944a1390b9a94b5f750adbef200783287eb971f3c55086", func := "farshelf/farshelflaw3.ACLSimplifyMatchesSpec", spec := "aCLSimplifyMatchesSpec", unfollowed := true, recurses := true, apart := false, narrowed := true }
def ACLSimplifyMatchesSpecUptoSaid : Prop := aCLSimplifyMatchesSpecUptoRow.holds Try.pinned (OpenSpec.upto aCLSimplifyMatchesSpecSpec)

/-- 'farshelflaw3.ACLSimplifyPreservesPermissions', WHERE WHAT IT READS IS OF BULK AT MOST 1048576: true; the input reads as it did. -/
def aCLSimplifyPreservesPermissionsUptoRow : OpenClaim := { program := "ytbmcfhojhngpkaa", sum := "13267502bd80092a21944a1390b9a94b5f750adbef200783287eb971f3c55086", func := "farshelf/farshelflaw3.ACLSimplifyPreservesPermissions", spec := "aCLSimplifyPreservesPermissions", unfollowed := true, recurses := true, apart := false, narrowed := true }
def ACLSimplifyPreservesPermissionsUptoSaid : Prop := aCLSimplifyPreservesPermissionsUptoRow.holds Try.pinned (OpenSpec.upto aCLSimplifyPreservesPermissionsSpec)

/-- 'farshelflaw3.ACLFirstEntryWins', WHERE WHAT IT READS IS OF BULK AT MOST 1048576: true; the input reads as it did. -/
def aCLFirstEntryWinsUptoRow : OpenClaim := { program := "ytbmcfhojhngpkaa", sum := "13267502bd80092a21944a1390b9a94b5f750adbef200783287eb971f3c55086", func := "farshelf/farshelflaw3.ACLFirstEntryWins", spec := "aCLFirstEntryWins", unfollowed := true, recurses := true, apart := false, narrowed := true }
def ACLFirstEntryWinsUptoSaid : Prop := aCLFirstEntryWinsUptoRow.holds Try.pinned (OpenSpec.upto aCLFirstEntryWinsSpec)

end Rows
end Go.Proofs.Ytbmcfhojhngpkaa
