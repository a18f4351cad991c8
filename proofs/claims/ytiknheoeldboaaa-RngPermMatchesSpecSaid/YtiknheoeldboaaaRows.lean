/-
  No cell of these rows narrows 'for every input' (looked for: loops, veiled, ifaces, maps, wideKeys, modest, calm, conditions, laid).
  DERIVED. THE GIVEN ROWS OF THIS SEAT. 5 by the template 'for every input the law returns true; each argument reads behind the call as it read before'; 0 by the template 'total and deterministic' (their statements: YtiknheoeldboaaaTotals.lean).
  GIVEN WITH THE SEED: the statements are not yours to turn. If you find one false, say at which input.
  Laid BY PROGRAM, IN A SANDBOX (cutbox-rows.mjs): the forced cells as the released guide's own fill.sh prints them over the translation 58350ab9479802dc… (all of the seat's roots in one cut). By AI agents, Wed Nov 11 2026. No macro, syntax, notation, axiom, sorry.
-/
import Derived.Test.YtiknheoeldboaaaChecked
import GoSem.Claim
import GoSem.ClaimJoined
import GoSem.ClaimMapViews
import Derived.JoinedTies
import Derived.KernelRfl
namespace Go.Proofs.Ytiknheoeldboaaa
/- THE CELL 'sum', in the pinned program and in every row, IS THE sha256 OF THE DUMP (.gsa) THAT YtiknheoeldboaaaProg.lean LOADS. Nothing in Lean hashes anything: it is a label: what it is worth is what the hold of that sum in a sandbox is worth. -/
noncomputable def Try.pinned : Pinned := { name := "ytiknheoeldboaaa", sum := "58350ab9479802dc59d78849166c503ae739db68e8b542e17229082984736d3d", checked := Try.checked }
namespace Rows
def none {H : Type} : Left H := { results := [], args := [] }

/-- 'farshelflaw4.RngNextPrevInverse': WHATEVER THE INPUT: true; the input reads as it did. -/
def rngNextPrevInverseSpec : ChangeSpec := { name := "rngNextPrevInverse", fn := fun _ => fun
  | [d] => { results := [.lit (.bool true)], args := [d] }
  | _ => none }
def rngNextPrevInverseRow : OpenClaim := { program := "ytiknheoeldboaaa", sum := "58350ab9479802dc59d78849166c503ae739db68e8b542e17229082984736d3d", func := "farshelf/farshelflaw4.RngNextPrevInverse", spec := "rngNextPrevInverse", apart := false }
def RngNextPrevInverseSaid : Prop := rngNextPrevInverseRow.holds Try.pinned (OpenSpec.ofChange rngNextPrevInverseSpec)

/-- ITS FALSE NEIGHBOUR: 'it returns false'. Refute it at one input. -/
def rngNextPrevInverseWrong : ChangeSpec := { name := "rngNextPrevInverse", fn := fun _ => fun
  | [d] => { results := [.lit (.bool false)], args := [d] }
  | _ => none }
def RngNextPrevInverseWrongFalsely : Prop := rngNextPrevInverseRow.holds Try.pinned (OpenSpec.ofChange rngNextPrevInverseWrong)

/-- 'farshelflaw4.RngIntnMatchesSpec': WHATEVER THE INPUT: true; the input reads as it did. -/
def rngIntnMatchesSpecSpec : ChangeSpec := { name := "rngIntnMatchesSpec", fn := fun _ => fun
  | [d1, d2] => { results := [.lit (.bool true)], args := [d1, d2] }
  | _ => none }
def rngIntnMatchesSpecRow : OpenClaim := { program := "ytiknheoeldboaaa", sum := "58350ab9479802dc59d78849166c503ae739db68e8b542e17229082984736d3d", func := "farshelf/farshelflaw4.RngIntnMatchesSpec", spec := "rngIntnMatchesSpec", apart := false }
def RngIntnMatchesSpecSaid : Prop := rngIntnMatchesSpecRow.holds Try.pinned (OpenSpec.ofChange rngIntnMatchesSpecSpec)

/-- ITS FALSE NEIGHBOUR: 'it returns false'. Refute it at one input. -/
def rngIntnMatchesSpecWrong : ChangeSpec := { name := "rngIntnMatchesSpec", fn := fun _ => fun
  | [d1, d2] => { results := [.lit (.bool false)], args := [d1, d2] }
  | _ => none }
def RngIntnMatchesSpecWrongFalsely : Prop := rngIntnMatchesSpecRow.holds Try.pinned (OpenSpec.ofChange rngIntnMatchesSpecWrong)

/-- 'farshelflaw4.RngPermMatchesSpec': WHATEVER THE INPUT: true; the input reads as it did. -/
def rngPermMatchesSpecSpec : ChangeSpec := { name := "rngPermMatchesSpec", fn := fun _ => fun
  | [d1, d2] => { results := [.lit (.bool true)], args := [d1, d2] }
  | _ => none }
def rngPermMatchesSpecRow : OpenClaim := { program := "ytiknheoeldboaaa", sum := "58350ab9479802dc59d78849166c503ae739db68e8b542e17229082984736d3d", func := "farshelf/farshelflaw4.RngPermMatchesSpec", spec := "rngPermMatchesSpec", apart := false }
def RngPermMatchesSpecSaid : Prop := rngPermMatchesSpecRow.holds Try.pinned (OpenSpec.ofChange rngPermMatchesSpecSpec)

/-- ITS FALSE NEIGHBOUR: 'it returns false'. Refute it at one input. -/
def rngPermMatchesSpecWrong : ChangeSpec := { name := "rngPermMatchesSpec", fn := fun _ => fun
  | [d1, d2] => { results := [.lit (.bool false)], args := [d1, d2] }
  | _ => none }
def RngPermMatchesSpecWrongFalsely : Prop := rngPermMatchesSpecRow.holds Try.pinned (OpenSpec.ofChange rngPermMatchesSpecWrong)

/-- 'farshelflaw4.RngSkipIsAdditive': WHATEVER THE INPUT: true; the input reads as it did. -/
def rngSkipIsAdditiveSpec : ChangeSpec := { name := "rngSkipIsAdditive", fn := fun _ => fun
  | [d1, d2, d3] => { results := [.lit (.bool true)], args := [d1, d2, d3] }
  | _ => none }
def rngSkipIsAdditiveRow : OpenClaim := { program := "ytiknheoeldboaaa", sum := "58350ab9479802dc59d78849166c503ae739db68e8b542e17229082984736d3d", func := "farshelf/farshelflaw4.RngSkipIsAdditive", spec := "rngSkipIsAdditive", apart := false }
def RngSkipIsAdditiveSaid : Prop := rngSkipIsAdditiveRow.holds Try.pinned (OpenSpec.ofChange rngSkipIsAdditiveSpec)

/-- ITS FALSE NEIGHBOUR: 'it returns false'. Refute it at one input. -/
def rngSkipIsAdditiveWrong : ChangeSpec := { name := "rngSkipIsAdditive", fn := fun _ => fun
  | [d1, d2, d3] => { results := [.lit (.bool false)], args := [d1, d2, d3] }
  | _ => none }
def RngSkipIsAdditiveWrongFalsely : Prop := rngSkipIsAdditiveRow.holds Try.pinned (OpenSpec.ofChange rngSkipIsAdditiveWrong)

/-- 'farshelflaw4.RngLowBitsFullPeriod': WHATEVER THE INPUT: true; the input reads as it did. -/
def rngLowBitsFullPeriodSpec : ChangeSpec := { name := "rngLowBitsFullPeriod", fn := fun _ => fun
  | [d1, d2] => { results := [.lit (.bool true)], args := [d1, d2] }
  | _ => none }
def rngLowBitsFullPeriodRow : OpenClaim := { program := "ytiknheoeldboaaa", sum := "58350ab9479802dc59d78849166c503ae739db68e8b542e17229082984736d3d", func := "farshelf/farshelflaw4.RngLowBitsFullPeriod", spec := "rngLowBitsFullPeriod", apart := false }
def RngLowBitsFullPeriodSaid : Prop := rngLowBitsFullPeriodRow.holds Try.pinned (OpenSpec.ofChange rngLowBitsFullPeriodSpec)

/-- ITS FALSE NEIGHBOUR: 'it returns false'. Refute it at one input. -/
def rngLowBitsFullPeriodWrong : ChangeSpec := { name := "rngLowBitsFullPeriod", fn := fun _ => fun
  | [d1, d2] => { results := [.lit (.bool false)], args := [d1, d2] }
  | _ => none }
def RngLowBitsFullPeriodWrongFalsely : Prop := rngLowBitsFullPeriodRow.holds Try.pinned (OpenSpec.ofChange rngLowBitsFullPeriodWrong)

/- THE SECOND FORM. 'bulk': how many values and letters a reading holds, each counted each time it is reached (what is shared counts as often as it is met; a slice's spare places count too). A statement '..UptoSaid' is the law's where the arguments, and the package variables that the reading takes, are together of bulk at most 1048576: NARROWER than '..Said'. Prove '..Said' where nothing that the law and all that it calls make is longer than what came in: it says more and counts as full. Else prove '..UptoSaid'. A law counts once. -/
mutual
def uptoBulk {H : Type} : DataW H → Nat
  | .lit (.string bytes) => bytes.length + 1
  | .lit _ => 1
  | .nil => 1
  | .ptr d => uptoBulk d + 1
  | .slice elems spare => uptoBulkAll elems + uptoBulkAll spare + 1
  | .agg parts => uptoBulkAll parts + 1
  | .iface _ d => uptoBulk d + 1
  | .map entries => uptoBulkEntries entries + 1
  | .held _ => 1
def uptoBulkAll {H : Type} : List (DataW H) → Nat
  | [] => 0
  | d :: r => uptoBulk d + uptoBulkAll r
def uptoBulkEntries {H : Type} : List (Lit × DataW H) → Nat
  | [] => 0
  | x :: r => uptoBulkEntry x + uptoBulkEntries r
def uptoBulkEntry {H : Type} : Lit × DataW H → Nat
  | (.string bytes, d) => bytes.length + uptoBulk d + 1
  | (_, d) => uptoBulk d + 1
 end
def uptoSmall : (H : Type) → List (DataW H) → Bool := fun _ ds => decide (uptoBulkAll ds ≤ 1048576)
def OpenSpec.upto (s : _root_.Go.ChangeSpec) : _root_.Go.OpenSpec := { _root_.Go.OpenSpec.ofChange s with cond := some uptoSmall }

/-- 'farshelflaw4.RngNextPrevInverse', WHERE WHAT IT READS IS OF BULK AT MOST 1048576: true; the input reads as it did. -/
def rngNextPrevInverseUptoRow : OpenClaim := { program := "ytiknheoeldboaaa", sum := "58350ab9479802dc59d78849166c503ae739db68e8b542e17229082984736d3d", func := "farshelf/farshelflaw4.RngNextPrevInverse", spec := "rngNextPrevInverse", apart := false, narrowed := true }
def RngNextPrevInverseUptoSaid : Prop := rngNextPrevInverseUptoRow.holds Try.pinned (OpenSpec.upto rngNextPrevInverseSpec)

/-- 'farshelflaw4.RngIntnMatchesSpec', WHERE WHAT IT READS IS OF BULK AT MOST 1048576: true; the input reads as it did. -/
def rngIntnMatchesSpecUptoRow : OpenClaim := { program := "ytiknheoeldboaaa", sum := "58350ab9479802dc59d78849166c503ae739db68e8b542e17229082984736d3d", func := "farshelf/farshelflaw4.RngIntnMatchesSpec", spec := "rngIntnMatchesSpec", apart := false, narrowed := true }
def RngIntnMatchesSpecUptoSaid : Prop := rngIntnMatchesSpecUptoRow.holds Try.pinned (OpenSpec.upto rngIntnMatchesSpecSpec)

/-- 'farshelflaw4.RngPermMatchesSpec', WHERE WHAT IT READS IS OF BULK AT MOST 1048576: true; the input reads as it did. -/
def rngPermMatchesSpecUptoRow : OpenClaim := { program := "ytiknheoeldboaaa", sum := "58350ab9479802dc59d78849166c503ae739db68e8b542e17229082984736d3d", func := "farshelf/farshelflaw4.RngPermMatchesSpec", spec := "rngPermMatchesSpec", apart := false, narrowed := true }
def RngPermMatchesSpecUptoSaid : Prop := rngPermMatchesSpecUptoRow.holds Try.pinned (OpenSpec.upto rngPermMatchesSpecSpec)

/-- 'farshelflaw4.RngSkipIsAdditive', WHERE WHAT IT READS IS OF BULK AT MOST 1048576: true; the input reads as it did. -/
def rngSkipIsAdditiveUptoRow : OpenClaim := { program := "ytiknheoeldboaaa", sum := "58350ab9479802dc59d78849166c503ae739db68e8b542e17229082984736d3d", func := "farshelf/farshelflaw4.RngSkipIsAdditive", spec := "rngSkipIsAdditive", apart := false, narrowed := true }
def RngSkipIsAdditiveUptoSaid : Prop := rngSkipIsAdditiveUptoRow.holds Try.pinned (OpenSpec.upto rngSkipIsAdditiveSpec)

/-- 'farshelflaw4.RngLowBitsFullPeriod', WHERE WHAT IT READS IS OF BULK AT MOST 1048576: true; the input reads as it did. -/
def rngLowBitsFullPeriodUptoRow : OpenClaim := { program := "ytiknheoeldboaaa", sum := "58350ab9479802dc59d78849166c503ae739db68e8b542e17229082984736d3d", func := "farshelf/farshelflaw4.RngLowBitsFullPeriod", spec := "rngLowBitsFullPeriod", apart := false, narrowed := true }
def RngLowBitsFullPeriodUptoSaid : Prop := rngLowBitsFullPeriodUptoRow.holds Try.pinned (OpenSpec.upto rngLowBitsFullPeriodSpec)

end Rows
end Go.Proofs.Ytiknheoeldboaaa
