/- The law PathJoinMatchesSpec returns true at every slice of strings. Conditions: the slice's cells lie in memory as they read. -/
import Derived.Test.YtmjpcpnjppmnkaaPathRefJoin
import Derived.Test.YtmjpcpnjppmnkaaPathConst
namespace Go.Proofs.Ytmjpcpnjppmnkaa
open Go.RowKit

set_option maxHeartbeats 800000 in
theorem lawJoin_any (v : Value) (xs : List ByteArray) (w : World) (h : Strs w w.heap.size v xs) :
    Calls Try.prog 3 #[v] w fun e w' => e = .returned (.bool true) ∧ Below w.heap.size w w' := by
  have c1 := fun W (hb : Below w.heap.size w W) => pathJoin_any v xs W ((h.below hb).more hb.size)
  have c2 := fun W (hb : Below w.heap.size w W) => refJoin_any v xs W ((h.below hb).more hb.size)
  obtain ⟨S, c, i, hJ⟩ := joinV_form xs
  rw [hJ] at c1 c2
  clear h hJ
  have C1 := Lib.hid c1
  have C2 := Lib.hid c2
  clear c1 c2
  go_enter Try.func3, Try.ntmps3
  go_wp2_with fail
  refine (C1.out _ (Below.refl _ _)).mono ?_
  rintro e w1 ⟨rfl, b1⟩
  go_wp2_with fail
  refine (C2.out _ (b1.alloc b1.size _)).mono ?_
  rintro e w2 ⟨rfl, b2⟩
  have B2 : Below w.heap.size w w2 := (b1.alloc b1.size _).trans (b2.mono (by have := b1.size; simp; omega))
  have X1 := Lib.hid ((FBox.new w1 c i 24).below b2 (by simp))
  clear b1 b2
  go_wp2_with fail
  refine (pathJoin_any _ [strA, strB] _ (strs_two _ _ 9 (by simp))).mono ?_
  rw [joinV_ab]
  rintro e w3 ⟨rfl, b3⟩
  have B3 : Below w.heap.size w w3 := ((B2.alloc B2.size _).alloc (by have := B2.size; simp; omega) _).trans (b3.mono (by have := B2.size; simp; omega))
  have Y1 := ((X1.out.alloc _).alloc _).below b3 (by have := X1.out.lt; simp; omega)
  have Y2 := ((FBox.new w2 c i 24).alloc _).below b3 (by simp; omega)
  obtain ⟨l1, a0, a1, _, _⟩ := Y1
  obtain ⟨l2, d0, d1, _, _⟩ := Y2
  clear X1 b3
  go_wp2
  go_ret
  refine ⟨rfl, ?_⟩
  repeat (first | exact B3 | refine Below.setCell ?_ (by simp) _ | refine Below.alloc ?_ (by have := B3.size; simp; omega) _ | refine Below.drew ?_)

end Go.Proofs.Ytmjpcpnjppmnkaa
