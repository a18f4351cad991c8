/- Constants of the laws: the names "a" and "b", the path "/a/b", a slice of two strings. Plain facts. -/
import Derived.Test.YtmjpcpnjppmnkaaPathRefJoin
namespace Go.Proofs.Ytmjpcpnjppmnkaa
open Go.RowKit

def strA : ByteArray := ⟨#[97]⟩
def strB : ByteArray := ⟨#[98]⟩
theorem vnameA : vname strA = true := by
  refine (vname_good (vshape_iff.2 ⟨by decide, by decide, ?_, ?_⟩) ?_).symm
  · rw [Lib.toList_data]; decide
  · rw [Lib.toList_data]; decide
  · decide
theorem vnameB : vname strB = true := by
  refine (vname_good (vshape_iff.2 ⟨by decide, by decide, ?_, ?_⟩) ?_).symm
  · rw [Lib.toList_data]; decide
  · rw [Lib.toList_data]; decide
  · decide
theorem joinV_ab : joinV [strA, strB] = .tuple #[.string ⟨#[47, 97, 47, 98]⟩, .agg #[.int .i64 0, .int .i64 0]] := by
  have h : compFault [strA, strB] = (0, 0) := compFault_fine (by simp) (fun j hj => by
    match j, hj with
    | 0, _ => exact vnameA
    | 1, _ => exact vnameB)
  rw [joinV_good h (by decide)]
  rfl
theorem joinV_form (xs : List ByteArray) : ∃ S c i, joinV xs = .tuple #[.string S, .agg #[.int .i64 c, .int .i64 i]] := ⟨_, _, _, rfl⟩
theorem strs_two (W : World) (n t : Nat) (hn : n = W.heap.size) : Strs (W.alloc (.cells #[.string strA, .string strB] t)) (W.alloc (.cells #[.string strA, .string strB] t)).heap.size (.slice (some ⟨n, 0, none⟩) 2 2) [strA, strB] := by
  subst hn
  refine ⟨_, _, rfl, by simp, by simp, ?_, fun _ => ⟨_, _, rfl, by simp, ?_⟩⟩
  · intro x hx
    rcases List.mem_cons.1 hx with rfl | hx
    · decide
    · rcases List.mem_cons.1 hx with rfl | hx
      · decide
      · cases hx
  · intro j hj
    match j, hj with
    | 0, _ => simp
    | 1, _ => simp

end Go.Proofs.Ytmjpcpnjppmnkaa
