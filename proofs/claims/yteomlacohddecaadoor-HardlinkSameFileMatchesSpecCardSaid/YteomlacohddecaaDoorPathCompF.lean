/- The fault of a list of components, case by case. No program. -/
import Derived.Test.YteomlacohddecaaDoorPathJoin

set_option linter.all false
namespace Go.Proofs.YteomlacohddecaaDoor
open Go.RowKit

theorem getD_eq {xs : List ByteArray} {k : Nat} (h : k < xs.length) : xs.getD k ByteArray.empty = xs[k] := by
  rw [List.getD_eq_getElem?_getD, List.getElem?_eq_getElem h]; rfl

theorem vname_mem {xs : List ByteArray} (hv : ∀ j, j < xs.length → vname (xs.getD j ByteArray.empty) = true) : ∀ x ∈ xs, vname x = true := by
  intro x hx
  obtain ⟨j, hj, rfl⟩ := List.mem_iff_getElem.1 hx
  rw [← getD_eq hj]; exact hv j hj

theorem compFault_bad {xs : List ByteArray} {k : Nat} (hk : k < xs.length) (hb : vname (xs.getD k ByteArray.empty) = false) (hA : ∀ j, j < k → vname (xs.getD j ByteArray.empty) = true) : compFault xs = (12, (k : Int)) := by
  unfold compFault; rw [firstBad_hit hk hb hA, if_pos hk]
theorem compFault_deep {xs : List ByteArray} (h8 : 8 < xs.length) (hA : ∀ j, j < xs.length → vname (xs.getD j ByteArray.empty) = true) : compFault xs = (10, 0) := by
  unfold compFault; rw [firstBad_miss hA, if_neg (Nat.lt_irrefl _), if_pos h8]
theorem compFault_fine {xs : List ByteArray} (h8 : ¬ 8 < xs.length) (hA : ∀ j, j < xs.length → vname (xs.getD j ByteArray.empty) = true) : compFault xs = (0, 0) := by
  unfold compFault; rw [firstBad_miss hA, if_neg (Nat.lt_irrefl _), if_neg h8]

end Go.Proofs.YteomlacohddecaaDoor
