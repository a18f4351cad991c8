/- The law PathSplitMatchesSpec returns true at every string. Conditions: those of path.Split. -/
import Derived.Test.YtmjpcpnjppmnkaaDoorPathPrefix
import Derived.Test.YtmjpcpnjppmnkaaDoorPathConst
namespace Go.Proofs.YtmjpcpnjppmnkaaDoor
open Go.RowKit

def pathAB : ByteArray := ⟨#[47, 97, 47, 98]⟩
theorem compsAB : comps [97, 47, 98] = [strA, strB] := rfl
theorem compFaultAB : compFault [strA, strB] = (0, 0) := compFault_fine (by simp) (fun j hj => by
    match j, hj with
    | 0, _ => exact vnameA
    | 1, _ => exact vnameB)
theorem splitF_AB : splitF pathAB = (0, 0) := by
  have : splitF pathAB = compFault (comps [97, 47, 98]) := rfl
  rw [this, compsAB, compFaultAB]
theorem splitL_AB : splitL pathAB = [strA, strB] := by
  unfold splitL; rw [splitF_AB]; rfl

set_option maxHeartbeats 1000000 in
theorem lawSplit_any (p : ByteArray) (w : World) (hg : GM w) (hp : p.size ≤ maxLen) :
    Calls Tryd.prog 3 #[.string p] w fun e w' => e = .returned (.bool true) ∧ Below w.heap.size w w' := by
  have c1 := fun W (hb : Below w.heap.size w W) => pathSplit_any p W (hg.below hb) hp
  have c2 := fun W => refSplit_any p W hp
  have c3 := fun W (hb : Below w.heap.size w W) => pathSplit_any pathAB W (hg.below hb) (by decide)
  unfold SplitPost at c1 c2 c3
  rw [splitF_AB, splitL_AB] at c3
  generalize (splitF p).1 = c at *
  generalize (splitF p).2 = i at *
  generalize splitL p = xs at *
  have C1 := Lib.hid c1
  have C2 := Lib.hid c2
  have C3 := Lib.hid c3
  clear c1 c2 c3
  go_enter Tryd.func3, Tryd.ntmps3
  go_wp2_with fail
  refine (C1.out _ (Below.refl _ _)).mono ?_
  rintro e w1 ⟨v1, rfl, S1, b1, _⟩
  go_wp2_with fail
  refine (C2.out _).mono ?_
  rintro e w2 ⟨v2, rfl, S2, b2, _⟩
  have B2 : Below w.heap.size w w2 := (b1.alloc b1.size _).trans (b2.mono (by have := b1.size; simp; omega))
  have X1 := Lib.hid ((FBox.new w1 c i 24).below b2 (by simp))
  have T1 := Lib.hid (((S1.alloc (Nat.le_refl _) (.cells #[.int .i64 c, .int .i64 i] 24)).below (b2.mono (by simp))).more (B' := w2.heap.size) (by have := b2.size; simp at this; omega))
  have T2 := Lib.hid S2
  clear S1 S2 b1 b2
  go_wp2_with fail
  refine (C3.out _ (B2.alloc B2.size _)).mono ?_
  rintro e w3 ⟨v3, rfl, S3, b3, _⟩
  have B3 : Below w.heap.size w w3 := (B2.alloc B2.size _).trans (b3.mono (by have := B2.size; simp; omega))
  have X1' := Lib.hid ((X1.out.alloc _).below b3 (by have := X1.out.lt; simp; omega))
  have X2 := Lib.hid ((FBox.new w2 c i 24).below b3 (by simp))
  have T1' := Lib.hid (((T1.out.alloc (Nat.le_refl _) (.cells #[.int .i64 c, .int .i64 i] 24)).below (b3.mono (by simp))).more (B' := w3.heap.size) (by have := b3.size; simp at this; omega))
  have T2' := Lib.hid (((T2.out.alloc (Nat.le_refl _) (.cells #[.int .i64 c, .int .i64 i] 24)).below (b3.mono (by simp))).more (B' := w3.heap.size) (by have := b3.size; simp at this; omega))
  have T3 := Lib.hid S3
  clear S3 b3 X1 T1 T2
  obtain ⟨l1, g0, g1, f0, f1⟩ := X1'.out
  obtain ⟨l2, k0, k1, e0, e1⟩ := X2.out
  go_wp2_with fail
  have U1 := (T1'.out.alloc (Nat.le_refl _) (.cells #[.int .i64 0, .int .i64 0] 24)).more (B' := (w3.alloc (.cells #[.int .i64 0, .int .i64 0] 24)).heap.size) (by simp)
  have U2 := (T2'.out.alloc (Nat.le_refl _) (.cells #[.int .i64 0, .int .i64 0] 24)).more (B' := (w3.alloc (.cells #[.int .i64 0, .int .i64 0] 24)).heap.size) (by simp)
  refine (strings_any _ _ _ _ _ U1 U2).mono ?_
  rw [decide_eq_true rfl]
  rintro e w4 ⟨rfl, b4⟩
  have B4 : Below w.heap.size w w4 := (B3.alloc B3.size _).trans (b4.mono (by have := B3.size; simp; omega))
  obtain ⟨l3, m0, m1, q0, q1⟩ := (FBox.new w3 0 0 24).below b4 (by simp)
  have T3' := Lib.hid (((T3.out.alloc (Nat.le_refl _) (.cells #[.int .i64 0, .int .i64 0] 24)).below (b4.mono (by simp))).more (B' := w4.heap.size) (by have := b4.size; simp at this; omega))
  clear U1 U2 b4 X1' X2 T1' T2' T3 l1 g0 g1 f0 f1 l2 k0 k1 e0 e1
  go_wp2_with fail
  have U3 := (T3'.out.alloc (Nat.le_refl _) (.cells #[.string strA, .string strB] 9)).more (B' := (w4.alloc (.cells #[.string strA, .string strB] 9)).heap.size) (by simp)
  refine (strings_any _ _ _ _ _ U3 (strs_two w4 _ 9 rfl)).mono ?_
  rw [decide_eq_true rfl]
  rintro e w5 ⟨rfl, b5⟩
  have B5 : Below w.heap.size w w5 := (B4.alloc B4.size _).trans (b5.mono (by have := B4.size; simp; omega))
  clear U3 b5
  go_wp2
  go_ret
  refine ⟨rfl, ?_⟩
  repeat (first | exact B5 | refine Below.setCell ?_ (by first | (simp; done) | (simp; omega)) _ | refine Below.alloc ?_ (by first | (simp; done) | (simp; omega)) _ | refine Below.drew ?_)

end Go.Proofs.YtmjpcpnjppmnkaaDoor
