/- The reference's AttrCode at every attribute. Conditions: the strings are of at most the model's longest length. -/
import Derived.Test.YtndhhofidkaomaaAttrSlice
import Derived.Test.YtndhhofidkaomaaPathLeaves

set_option linter.all false
namespace Go.Proofs.Ytndhhofidkaomaa
open Go.RowKit

set_option maxHeartbeats 400000 in
theorem attrCode_any (x y : ByteArray) (w : World) (hx : x.size ≤ maxLen) (hy : y.size ≤ maxLen) :
    Calls Try.prog 55 #[.agg #[.string x, .string y]] w fun e w' => e = .returned (.int .i64 (codeA ⟨x, y⟩)) ∧ Below w.heap.size w w' := by
  have hc := fun W => validName_any x W hx
  unfold maxLen at hy
  have HF := Lib.hid (show codeA ⟨x, y⟩ = if vname x = true then (if 20 < y.size then 10 else 0) else 12 from rfl)
  generalize codeA ⟨x, y⟩ = q at *
  cases hv : vname x with
  | false =>
    rw [hv] at hc HF
    rw [if_neg (by simp)] at HF
    clear hv
    go_enter Try.func55, Try.ntmps55
    go_wp2_with fail
    refine (hc _).mono ?_
    rintro e w' ⟨rfl, rfl⟩
    go_wp2
    go_ret
    exact ⟨ret_int HF.out.symm, (Below.refl _ _).alloc (Nat.le_refl _) _⟩
  | true =>
    rw [hv] at hc HF
    rw [if_pos rfl] at HF
    clear hv
    go_enter Try.func55, Try.ntmps55
    go_wp2_with fail
    refine (hc _).mono ?_
    rintro e w' ⟨rfl, rfl⟩
    go_wp2
    · go_ret
      exact ⟨ret_int (by rw [HF.out, if_pos (by omega)]), (Below.refl _ _).alloc (Nat.le_refl _) _⟩
    · go_ret
      exact ⟨ret_int (by rw [HF.out, if_neg (by omega)]), (Below.refl _ _).alloc (Nat.le_refl _) _⟩

end Go.Proofs.Ytndhhofidkaomaa
