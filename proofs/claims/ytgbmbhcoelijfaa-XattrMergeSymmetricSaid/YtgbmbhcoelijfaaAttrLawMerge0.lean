/- Merge's constant: nil, a = b and nil. Plain facts. -/
import Derived.Test.YtgbmbhcoelijfaaAttrMerge
import Derived.Test.YtgbmbhcoelijfaaAttrLawDiff0
namespace Go.Proofs.Ytgbmbhcoelijfaa
open Go.RowKit

theorem chk_nab : chkF [[], [⟨bA, bB⟩], []] = (0, 0) := chk_miss fun j hj => by
  match j, hj with
  | 0, _ => show (valA []).1 = 0; rw [good_nil.val]
  | 1, _ => show (valA [⟨bA, bB⟩]).1 = 0; rw [good_ab.val]
  | 2, _ => show (valA []).1 = 0; rw [good_nil.val]
theorem mrgL_nab : mrgL [] [⟨bA, bB⟩] [] = [⟨bA, bB⟩] := by
  unfold mrgL mrgN
  have e : ([[], [⟨bA, bB⟩], []] : List (List Attr)).flatten = [⟨bA, bB⟩] := rfl
  rw [e, namesB_one]
  unfold mrgK mrg1 mrgV
  simp [getA_ab, getA_nil, bB_ne, presA]
theorem mrgF_nab : mrgF [] [⟨bA, bB⟩] [] = (0, 0) := by
  unfold mrgF; rw [chk_nab, if_pos rfl, mrgL_nab, if_neg (by simp)]
theorem mrgO_nab : mrgO [] [⟨bA, bB⟩] [] = [⟨bA, bB⟩] := by
  unfold mrgO; rw [mrgF_nab, if_pos rfl, mrgL_nab]
def OneMerge (w : World) (e : Ending) (w' : World) : Prop :=
  ∃ a c u, e = .returned (.tuple #[.slice a 1 c, u, .agg #[.int .i64 0, .int .i64 0]]) ∧ Below w.heap.size w w'
theorem mergeOne_any (v : Value) (w : World) (h : Ats w w.heap.size v [⟨bA, bB⟩]) : Calls Try.prog 21 #[.slice none 0 0, v, .slice none 0 0] w (OneMerge w) := by
  refine (merge_any _ [] v [⟨bA, bB⟩] _ [] w (Ats.none_ _ _) h (Ats.none_ _ _)).mono fun e w' ⟨v', u', he, hA, _, hb⟩ => ?_
  rw [mrgF_nab] at he
  rw [mrgO_nab] at hA
  obtain ⟨a, c, rfl, _⟩ := hA.form (n := 1) rfl
  exact ⟨a, c, u', he, hb⟩

end Go.Proofs.Ytgbmbhcoelijfaa
