/- The law ACLValidateMatchesSpec returns true at every access control list. Conditions: the slice's cells lie in memory as they read. -/
import Derived.Test.YtbmcfhojhngpkaaAclRefValid
namespace Go.Proofs.Ytbmcfhojhngpkaa
open Go.RowKit

theorem valV_form (xs : List Ent) : ∃ c i, valV xs = .agg #[.int .i64 c, .int .i64 i] := ⟨_, _, rfl⟩
theorem valV_two : valV [⟨-2, 0, 0⟩] = .agg #[.int .i64 3, .int .i64 0] := by
  have h : codeE ⟨-2, 0, 0⟩ = 3 := (code_user (by decide) (by decide)).symm
  have := valV_hit (xs := [⟨-2, 0, 0⟩]) (k := 0) (by simp) (by simp) (by simpa using h) (by decide) (fun j hj => absurd hj (Nat.not_lt_zero _))
  rw [← this]; rfl

set_option maxHeartbeats 800000 in
theorem lawValid_any (v : Value) (xs : List Ent) (w : World) (h : Acls w w.heap.size v xs) :
    Calls Try.prog 3 #[v] w fun e w' => e = .returned (.bool true) ∧ Below w.heap.size w w' := by
  have c1 := fun W (hb : Below w.heap.size w W) => validate_any v xs W ((h.below hb).more hb.size)
  have c2 := fun W (hb : Below w.heap.size w W) => refValid_any v xs W ((h.below hb).more hb.size)
  obtain ⟨c, i, hJ⟩ := valV_form xs
  rw [hJ] at c1 c2
  clear h hJ
  have C1 := Lib.hid c1
  have C2 := Lib.hid c2
  clear c1 c2
  go_enter Try.func3, Try.ntmps3
  go_wp2_with fail
  refine (C1.out _ (Below.refl _ _)).mono ?_
  rintro e w1 ⟨rfl, b1⟩
  go_wp2_with fail
  refine (C2.out _ b1).mono ?_
  rintro e w2 ⟨rfl, b2⟩
  have B2 : Below w.heap.size w w2 := b1.trans (b2.mono b1.size)
  clear b1 b2
  go_wp2_with fail
  refine (validate_any _ [⟨-2, 0, 0⟩] _ ((acls_one _ _ (by simp) ⟨-2, 0, 0⟩ (by unfold Ent.fits i64; simp) _).more (by simp))).mono ?_
  rw [valV_two]
  rintro e w3 ⟨rfl, b3⟩
  have B3 : Below w.heap.size w w3 := (B2.alloc B2.size _).trans (b3.mono (by have := B2.size; simp; omega))
  clear b3
  go_wp2_with fail
  refine (newFault_any _ _ _).mono ?_
  rintro e w4 ⟨rfl, b4⟩
  have B4 : Below w.heap.size w w4 := B3.trans (b4.mono B3.size)
  clear b4
  go_wp2
  go_ret
  exact ⟨rfl, B4⟩

end Go.Proofs.Ytbmcfhojhngpkaa
