/- The law XattrValidateMatchesSpec returns true at every list. Conditions: the slice's cells lie in memory as they read. -/
import Derived.Test.YtgbmbhcoelijfaaAttrConst
namespace Go.Proofs.Ytgbmbhcoelijfaa
open Go.RowKit

set_option maxHeartbeats 800000 in
theorem lawValid_any (v : Value) (xs : List Attr) (w : World) (h : Ats w w.heap.size v xs) :
    Calls Try.prog 3 #[v] w fun e w' => e = .returned (.bool true) ∧ Below w.heap.size w w' := by
  have c1 := fun W (hb : Below w.heap.size w W) => validate_any v xs W (h.up hb)
  have c2 := fun W (hb : Below w.heap.size w W) => refValidate_any v xs W (h.up hb)
  obtain ⟨c, i, hJ⟩ := valAV_form xs
  rw [hJ] at c1 c2
  clear h hJ
  have C1 := Lib.hid c1
  have C2 := Lib.hid c2
  clear c1 c2
  go_enter Try.func3, Try.ntmps3
  go_wp2_with fail
  refine (C1.out _ (Below.refl _ _)).mono ?_
  rintro e w1 ⟨rfl, b1⟩
  go_wp2_with fail
  refine (C2.out _ b1).mono ?_
  rintro e w2 ⟨rfl, b2⟩
  have B2 : Below w.heap.size w w2 := b1.trans (b2.mono b1.size)
  have s2 := B2.size
  clear b1 b2
  go_wp2_with fail
  refine (validate_any _ [⟨bA, ByteArray.empty⟩] _ ((ats_one _ _ (by first | omega | (simp; done) | (simp; omega)) ⟨bA, ByteArray.empty⟩ ⟨bA_fits, empty_fits⟩ _).more (by first | omega | (simp; done) | (simp; omega)))).mono ?_
  rw [valAV_a]
  rintro e w3 ⟨rfl, b3⟩
  have B3 : Below w.heap.size w w3 := (B2.alloc s2 _).trans (b3.mono (by first | omega | (simp; done) | (simp; omega)))
  clear b3
  go_wp2_with fail
  refine (newFault_any _ _ _).mono ?_
  rintro e w4 ⟨rfl, b4⟩
  have B4 : Below w.heap.size w w4 := B3.trans (b4.mono B3.size)
  clear b4
  go_wp2
  go_ret
  exact ⟨rfl, B4⟩

end Go.Proofs.Ytgbmbhcoelijfaa
