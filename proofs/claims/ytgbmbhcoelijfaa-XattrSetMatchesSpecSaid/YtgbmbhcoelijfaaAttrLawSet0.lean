/- Set's constant: setting a = b in the nil list. Plain facts. -/
import Derived.Test.YtgbmbhcoelijfaaAttrSet
import Derived.Test.YtgbmbhcoelijfaaAttrConst
namespace Go.Proofs.Ytgbmbhcoelijfaa
open Go.RowKit

theorem setL_ab : setL [] ⟨bA, bB⟩ = [⟨bA, bB⟩] := by unfold setL; rw [presA_one bB_ne]; simp
theorem setF_ab : setF [] ⟨bA, bB⟩ = (0, 0) := by
  unfold setF
  rw [good_nil.val, if_pos rfl, codeA_a bB (by decide), if_pos rfl, setL_ab, if_neg (by simp)]
theorem setO_ab : setO [] ⟨bA, bB⟩ = [⟨bA, bB⟩] := by unfold setO; rw [setF_ab, if_pos rfl, setL_ab]
def OnePost (w : World) (e : Ending) (w' : World) : Prop :=
  ∃ a c, e = .returned (.tuple #[.slice a 1 c, .agg #[.int .i64 0, .int .i64 0]]) ∧ Below w.heap.size w w'
theorem setOne_any (w : World) : Calls Try.prog 15 #[.slice none 0 0, .agg #[.string bA, .string bB]] w (OnePost w) := by
  refine (set_any _ [] bA bB w (Ats.none_ _ _) ⟨bA_fits, bB_fits⟩).mono fun e w' ⟨v, he, hA, hb⟩ => ?_
  rw [setF_ab] at he
  rw [setO_ab] at hA
  obtain ⟨a, c, rfl, _⟩ := hA.form (n := 1) rfl
  exact ⟨a, c, he, hb⟩

end Go.Proofs.Ytgbmbhcoelijfaa
