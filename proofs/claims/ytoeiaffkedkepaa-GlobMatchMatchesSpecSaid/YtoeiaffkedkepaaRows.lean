/-
  No cell of these rows narrows 'for every input' (looked for: loops, veiled, ifaces, maps, wideKeys, modest, calm, conditions, laid).
  DERIVED. THE GIVEN ROWS OF THIS SEAT. 3 by the template 'for every input the law returns true; each argument reads behind the call as it read before'; 0 by the template 'total and deterministic' (their statements: YtoeiaffkedkepaaTotals.lean).
  GIVEN WITH THE SEED: the statements are not yours to turn. If you find one false, say at which input.
  Laid BY PROGRAM, IN A SANDBOX (cutbox-rows.mjs): the forced cells as the released guide's own fill.sh prints them over the translation 9eb410e54d3d0ef1… (all of the seat's roots in one cut). By AI agents, Wed Nov 11 2026. No macro, syntax, notation, axiom, sorry.
-/
import Derived.Test.YtoeiaffkedkepaaChecked
import GoSem.Claim
import GoSem.ClaimJoined
import GoSem.ClaimMapViews
import Derived.JoinedTies
import Derived.KernelRfl
namespace Go.Proofs.Ytoeiaffkedkepaa
/- THE CELL 'sum', in the pinned program and in every row, IS THE sha256 OF THE DUMP (.gsa) THAT YtoeiaffkedkepaaProg.lean LOADS. Nothing in Lean hashes anything: it is a label: what it is worth is what the hold of that sum in a sandbox is worth. -/
noncomputable def Try.pinned : Pinned := { name := "ytoeiaffkedkepaa", sum := "9eb410e54d3d0ef130a79a1e96eb83c724aa00a37576b69f522bb4ea98168cc2", checked := Try.checked }
namespace Rows
def none {H : Type} : Left H := { results := [], args := [] }

/-- 'farshelflaw4.GlobMatchMatchesSpec': WHATEVER THE INPUT: true; the input reads as it did. -/
def globMatchMatchesSpecSpec : ChangeSpec := { name := "globMatchMatchesSpec", fn := fun _ => fun
  | [d1, d2] => { results := [.lit (.bool true)], args := [d1, d2] }
  | _ => none }
def globMatchMatchesSpecRow : OpenClaim := { program := "ytoeiaffkedkepaa", sum := "9eb410e54d3d0ef130a79a1e96eb83c724aa00a37576b69f522bb4ea98168cc2", func := "farshelf/farshelflaw4.GlobMatchMatchesSpec", spec := "globMatchMatchesSpec", unfollowed := true, recurses := true, apart := false }
def GlobMatchMatchesSpecSaid : Prop := globMatchMatchesSpecRow.holds Try.pinned (OpenSpec.ofChange globMatchMatchesSpecSpec)

/-- ITS FALSE NEIGHBOUR: 'it returns false'. Refute it at one input. -/
def globMatchMatchesSpecWrong : ChangeSpec := { name := "globMatchMatchesSpec", fn := fun _ => fun
  | [d1, d2] => { results := [.lit (.bool false)], args := [d1, d2] }
  | _ => none }
def GlobMatchMatchesSpecWrongFalsely : Prop := globMatchMatchesSpecRow.holds Try.pinned (OpenSpec.ofChange globMatchMatchesSpecWrong)

/-- 'farshelflaw4.GlobStarSplits': WHATEVER THE INPUT: true; the input reads as it did. -/
def globStarSplitsSpec : ChangeSpec := { name := "globStarSplits", fn := fun _ => fun
  | [d1, d2, d3] => { results := [.lit (.bool true)], args := [d1, d2, d3] }
  | _ => none }
def globStarSplitsRow : OpenClaim := { program := "ytoeiaffkedkepaa", sum := "9eb410e54d3d0ef130a79a1e96eb83c724aa00a37576b69f522bb4ea98168cc2", func := "farshelf/farshelflaw4.GlobStarSplits", spec := "globStarSplits", unfollowed := true, recurses := true, apart := false }
def GlobStarSplitsSaid : Prop := globStarSplitsRow.holds Try.pinned (OpenSpec.ofChange globStarSplitsSpec)

/-- ITS FALSE NEIGHBOUR: 'it returns false'. Refute it at one input. -/
def globStarSplitsWrong : ChangeSpec := { name := "globStarSplits", fn := fun _ => fun
  | [d1, d2, d3] => { results := [.lit (.bool false)], args := [d1, d2, d3] }
  | _ => none }
def GlobStarSplitsWrongFalsely : Prop := globStarSplitsRow.holds Try.pinned (OpenSpec.ofChange globStarSplitsWrong)

/-- 'farshelflaw4.GlobWidening': WHATEVER THE INPUT: true; the input reads as it did. -/
def globWideningSpec : ChangeSpec := { name := "globWidening", fn := fun _ => fun
  | [d1, d2] => { results := [.lit (.bool true)], args := [d1, d2] }
  | _ => none }
def globWideningRow : OpenClaim := { program := "ytoeiaffkedkepaa", sum := "9eb410e54d3d0ef130a79a1e96eb83c724aa00a37576b69f522bb4ea98168cc2", func := "farshelf/farshelflaw4.GlobWidening", spec := "globWidening", unfollowed := true, recurses := true, apart := false }
def GlobWideningSaid : Prop := globWideningRow.holds Try.pinned (OpenSpec.ofChange globWideningSpec)

/-- ITS FALSE NEIGHBOUR: 'it returns false'. Refute it at one input. -/
def globWideningWrong : ChangeSpec := { name := "globWidening", fn := fun _ => fun
  | [d1, d2] => { results := [.lit (.bool false)], args := [d1, d2] }
  | _ => none }
def GlobWideningWrongFalsely : Prop := globWideningRow.holds Try.pinned (OpenSpec.ofChange globWideningWrong)

/- THE SECOND FORM. 'bulk': how many values and letters a reading holds, each counted each time it is reached (what is shared counts as often as it is met; a slice's spare places count too). A statement '..UptoSaid' is the law's where the arguments, and the package variables that the reading takes, are together of bulk at most 1048576: NARROWER than '..Said'. Prove '..Said' where nothing that the law and all that it calls make is longer than what came in: it says more and counts as full. Else prove '..UptoSaid'. A law counts once. -/
mutual
def uptoBulk {H : Type} : DataW H → Nat
  | .lit (.string bytes) => bytes.length + 1
  | .lit _ => 1
  | .nil => 1
  | .ptr d => uptoBulk d + 1
  | .slice elems spare => uptoBulkAll elems + uptoBulkAll spare + 1
  | .agg parts => uptoBulkAll parts + 1
  | .iface _ d => uptoBulk d + 1
  | .map entries => uptoBulkEntries entries + 1
  | .held _ => 1
def uptoBulkAll {H : Type} : List (DataW H) → Nat
  | [] => 0
  | d :: r => uptoBulk d + uptoBulkAll r
def uptoBulkEntries {H : Type} : List (Lit × DataW H) → Nat
  | [] => 0
  | x :: r => uptoBulkEntry x + uptoBulkEntries r
def uptoBulkEntry {H : Type} : Lit × DataW H → Nat
  | (.string bytes, d) => bytes.length + uptoBulk d + 1
  | (_, d) => uptoBulk d + 1
 end
def uptoSmall : (H : Type) → List (DataW H) → Bool := fun _ ds => decide (uptoBulkAll ds ≤ 1048576)
def OpenSpec.upto (s : _root_.Go.ChangeSpec) : _root_.Go.OpenSpec := { _root_.Go.OpenSpec.ofChange s with cond := some uptoSmall }

/-- 'farshelflaw4.GlobMatchMatchesSpec', WHERE WHAT IT READS IS OF BULK AT MOST 1048576: true; the input reads as it did. -/
def globMatchMatchesSpecUptoRow : OpenClaim := { program := "ytoeiaffkedkepaa", sum := "9eb410e54d3d0ef130a79a1e96eb83c724aa00a37576b69f522bb4ea98168cc2", func := "farshelf/farshelflaw4.GlobMatchMatchesSpec", spec := "globMatchMatchesSpec", unfollowed := true, recurses := true, apart := false, narrowed := true }
def GlobMatchMatchesSpecUptoSaid : Prop := globMatchMatchesSpecUptoRow.holds Try.pinned (OpenSpec.upto globMatchMatchesSpecSpec)

/-- 'farshelflaw4.GlobStarSplits', WHERE WHAT IT READS IS OF BULK AT MOST 1048576: true; the input reads as it did. -/
def globStarSplitsUptoRow : OpenClaim := { program := "ytoeiaffkedkepaa", sum := "9eb410e54d3d0ef130a79a1e96eb83c724aa00a37576b69f522bb4ea98168cc2", func := "farshelf/farshelflaw4.GlobStarSplits", spec := "globStarSplits", unfollowed := true, recurses := true, apart := false, narrowed := true }
def GlobStarSplitsUptoSaid : Prop := globStarSplitsUptoRow.holds Try.pinned (OpenSpec.upto globStarSplitsSpec)

/-- 'farshelflaw4.GlobWidening', WHERE WHAT IT READS IS OF BULK AT MOST 1048576: true; the input reads as it did. -/
def globWideningUptoRow : OpenClaim := { program := "ytoeiaffkedkepaa", sum := "9eb410e54d3d0ef130a79a1e96eb83c724aa00a37576b69f522bb4ea98168cc2", func := "farshelf/farshelflaw4.GlobWidening", spec := "globWidening", unfollowed := true, recurses := true, apart := false, narrowed := true }
def GlobWideningUptoSaid : Prop := globWideningUptoRow.holds Try.pinned (OpenSpec.upto globWideningSpec)

end Rows
end Go.Proofs.Ytoeiaffkedkepaa
