/- Constants of the laws: the strings "a" and "b", the lists of one attribute. Plain facts. -/
import Derived.Test.YtgbmbhcoelijfaaAttrGet
namespace Go.Proofs.Ytgbmbhcoelijfaa
open Go.RowKit

def bA : ByteArray := ⟨#[97]⟩
def bB : ByteArray := ⟨#[98]⟩
theorem vname_bA : vname bA = true := by
  refine (vname_good (vshape_iff.2 ⟨by decide, by decide, ?_, ?_⟩) ?_).symm
  · rw [Lib.toList_data]; decide
  · rw [Lib.toList_data]; decide
  · decide
theorem bA_fits : bA.size ≤ maxLen := by unfold maxLen; decide
theorem bB_fits : bB.size ≤ maxLen := by unfold maxLen; decide
theorem bB_ne : bB ≠ ByteArray.empty := by decide
theorem empty_fits : ByteArray.empty.size ≤ maxLen := by unfold maxLen; simp
theorem codeA_a (z : ByteArray) (h : z.size ≤ 20) : codeA ⟨bA, z⟩ = 0 := by
  unfold codeA; rw [if_pos vname_bA, if_neg (by simp only; omega)]
theorem valAV_a : valAV [⟨bA, ByteArray.empty⟩] = .agg #[.int .i64 5, .int .i64 0] := by
  have h : codeL [⟨bA, ByteArray.empty⟩] 0 = 5 := by
    unfold codeL
    rw [show ([⟨bA, ByteArray.empty⟩] : List Attr).getD 0 A0 = ⟨bA, ByteArray.empty⟩ from rfl, codeA_a _ (by simp), if_pos rfl, if_pos (Or.inl rfl)]
  rw [valAV_hit (k := 0) (by simp) (by simp) h (by decide) (fun j hj => absurd hj (Nat.not_lt_zero _))]
  rfl
theorem good_ab : Good [⟨bA, bB⟩] := ⟨by simp, by simpa using codeA_a bB (by decide), by simpa using bB_ne, by simp⟩
theorem getV_ab : getV [⟨bA, bB⟩] bA = .tuple #[.string bB, .agg #[.int .i64 0, .int .i64 0]] := by
  have h1 : valA [⟨bA, bB⟩] = (0, 0) := good_ab.val
  have h2 : getA [⟨bA, bB⟩] bA = bB := by rw [getA_cons]; simp
  unfold getV getS getF
  rw [h1, h2, if_pos rfl, if_pos rfl, if_neg bB_ne]
  rfl
theorem valAV_form (xs : List Attr) : ∃ c i, valAV xs = .agg #[.int .i64 c, .int .i64 i] := ⟨_, _, rfl⟩

end Go.Proofs.Ytgbmbhcoelijfaa
