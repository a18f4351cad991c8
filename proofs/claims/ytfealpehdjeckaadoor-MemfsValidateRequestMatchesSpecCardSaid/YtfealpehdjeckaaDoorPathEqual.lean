/- Equality of two slices of strings (the checker's and the library's), and the prefix test. Conditions: the slices' cells lie in memory as they read. -/
import Derived.Test.YtfealpehdjeckaaDoorPathRefSplit
import Derived.RegionTactic
namespace Go.Proofs.YtfealpehdjeckaaDoor
open Go.RowKit

theorem list_eq_getD {xs ys : List ByteArray} (hl : xs.length = ys.length) (h : ∀ j, j < xs.length → xs.getD j ByteArray.empty = ys.getD j ByteArray.empty) : xs = ys := by
  apply List.ext_getElem hl
  intro j h1 h2
  have := h j h1
  rwa [getD_eq h1, getD_eq h2] at this
theorem list_ne_getD {xs ys : List ByteArray} (k : Nat) (h : xs.getD k ByteArray.empty ≠ ys.getD k ByteArray.empty) : xs ≠ ys := fun e => h (by rw [e])

end Go.Proofs.YtfealpehdjeckaaDoor
