/- The law PathContainsMatchesSpec returns true at all strings. Conditions: those of path.Contains. -/
import Derived.Test.YtmjpcpnjppmnkaaDoorPathLawSplit
namespace Go.Proofs.YtmjpcpnjppmnkaaDoor
open Go.RowKit

def pathA : ByteArray := ⟨#[47, 97]⟩
def pathRoot : ByteArray := ⟨#[47]⟩
def strX : ByteArray := ⟨#[120]⟩
def pathX : ByteArray := ⟨#[47, 120]⟩
theorem vnameX : vname strX = true := by
  refine (vname_good (vshape_iff.2 ⟨by decide, by decide, ?_, ?_⟩) ?_).symm
  · rw [Lib.toList_data]; decide
  · rw [Lib.toList_data]; decide
  · decide
theorem splitF_one {x : ByteArray} (hx : vname x = true) : compFault [x] = (0, 0) := compFault_fine (by simp) (fun j hj => by
    match j, hj with
    | 0, _ => exact hx)
theorem splitF_A : splitF pathA = (0, 0) := by
  have : splitF pathA = compFault [strA] := rfl
  rw [this, splitF_one vnameA]
theorem splitL_A : splitL pathA = [strA] := by
  unfold splitL; rw [splitF_A]; rfl
theorem splitF_X : splitF pathX = (0, 0) := by
  have : splitF pathX = compFault [strX] := rfl
  rw [this, splitF_one vnameX]
theorem splitL_X : splitL pathX = [strX] := by
  unfold splitL; rw [splitF_X]; rfl
theorem splitF_root : splitF pathRoot = (0, 0) := rfl
theorem splitL_root : splitL pathRoot = [] := by
  unfold splitL; rw [splitF_root]; rfl
theorem contV_AAB : contV pathA pathAB = .tuple #[.bool true, .agg #[.int .i64 0, .int .i64 0]] := by
  unfold contV contF contB
  rw [splitF_A, splitF_AB, splitL_A, splitL_AB]
  have : pre [strA] [strA, strB] = true := by decide
  simp [this]
theorem contV_rootX : contV pathRoot pathX = .tuple #[.bool true, .agg #[.int .i64 0, .int .i64 0]] := by
  unfold contV contF contB
  rw [splitF_root, splitF_X, splitL_root, splitL_X]
  have : pre [] [strX] = true := by decide
  simp [this]

set_option maxHeartbeats 1000000 in
theorem lawContains_badA (a b : ByteArray) (w : World) (hg : GM w) (ha : a.size ≤ maxLen) (hb : b.size ≤ maxLen) (hbad : (splitF a).1 ≠ 0) :
    Calls Tryd.prog 5 #[.string a, .string b] w fun e w' => e = .returned (.bool true) ∧ Below w.heap.size w w' := by
  have c1 := fun W (hb' : Below w.heap.size w W) => contains_any a b W (hg.below hb') ha hb
  have c2 := fun W => refSplit_any a W ha
  have c3 := fun W => refSplit_any b W hb
  have c4 := fun W (hb' : Below w.heap.size w W) => contains_any pathA pathAB W (hg.below hb') (by decide) (by decide)
  rw [contV_AAB] at c4
  unfold SplitPost at c2 c3
  unfold contV contF contB at c1
  rw [decide_eq_false (fun h => hbad h.1), Bool.false_and, if_neg hbad] at c1
  generalize (splitF a).1 = c at *
  generalize (splitF a).2 = i at *
  generalize (splitF b).1 = c' at *
  generalize (splitF b).2 = i' at *
  have hc1 : (c != 0) = true := by simpa using hbad
  have hc2 : (c == 0) = false := by simpa using hbad
  clear hbad
  have C1 := Lib.hid c1
  have C2 := Lib.hid c2
  have C3 := Lib.hid c3
  have C4 := Lib.hid c4
  clear c1 c2 c3 c4
  go_enter Tryd.func5, Tryd.ntmps5
  go_wp2_with fail
  refine (C1.out _ (Below.refl _ _)).mono ?_
  rintro e w1 ⟨rfl, b1⟩
  have hs1 := b1.size
  go_wp2_with fail
  refine (C2.out _).mono ?_
  rintro e w2 ⟨v2, rfl, S2, b2, _⟩
  have hs2 : w1.heap.size < w2.heap.size := by have := b2.size; simp at this; omega
  have B2 : Below w.heap.size w w2 := (b1.alloc b1.size _).trans (b2.mono (by simp; omega))
  have X1 := Lib.hid ((FBox.new w1 c i 24).below b2 (by simp))
  have T2 := Lib.hid S2
  clear S2 b1 b2
  go_wp2_with fail
  refine (C3.out _).mono ?_
  rintro e w3 ⟨v3, rfl, S3, b3, _⟩
  have hs3 : w2.heap.size < w3.heap.size := by have := b3.size; simp at this; omega
  have B3 : Below w.heap.size w w3 := (B2.alloc B2.size _).trans (b3.mono (by simp; omega))
  have X1' := Lib.hid ((X1.out.alloc _).below b3 (by simp; omega))
  have X2 := Lib.hid ((FBox.new w2 c i 24).below b3 (by simp))
  have T2' := Lib.hid ((T2.out.alloc (Nat.le_refl _) (.cells #[.int .i64 c, .int .i64 i] 24)).below (b3.mono (by simp)))
  have T3 := Lib.hid S3
  clear S3 b3 X1 T2
  go_wp2_with fail
  refine (C4.out _ (B3.alloc B3.size _)).mono ?_
  rintro e w4 ⟨rfl, b4⟩
  have hs4 : w3.heap.size < w4.heap.size := by have := b4.size; simp at this; omega
  have B4 : Below w.heap.size w w4 := (B3.alloc B3.size _).trans (b4.mono (by simp; omega))
  have Y1 := Lib.hid ((X1'.out.alloc _).below b4 (by simp; omega))
  have Y2 := Lib.hid ((X2.out.alloc _).below b4 (by simp; omega))
  have Y3 := Lib.hid ((FBox.new w3 c' i' 24).below b4 (by simp))
  have T2'' := Lib.hid ((T2'.out.alloc (by omega) (.cells #[.int .i64 c', .int .i64 i'] 24)).below (b4.mono (by simp; omega)))
  have T3' := Lib.hid ((T3.out.alloc (Nat.le_refl _) (.cells #[.int .i64 c', .int .i64 i'] 24)).below (b4.mono (by simp)))
  clear b4 X1' X2 T2' T3
  obtain ⟨l1, g0, g1, f0, f1⟩ := Y1.out
  obtain ⟨l2, k0, k1, e0, e1⟩ := Y2.out
  obtain ⟨l3, m0, m1, n0, n1⟩ := Y3.out
  go_wp2
  go_ret
  refine ⟨rfl, ?_⟩
  repeat (first | exact B4 | refine Below.setCell ?_ (by first | omega | (simp; done) | (simp; omega)) _ | refine Below.alloc ?_ (by first | omega | (simp; done) | (simp; omega)) _ | refine Below.drew ?_)

set_option maxHeartbeats 1000000 in
theorem lawContains_badB (a b : ByteArray) (w : World) (hg : GM w) (ha : a.size ≤ maxLen) (hb : b.size ≤ maxLen) (hok : (splitF a).1 = 0) (hbad : (splitF b).1 ≠ 0) :
    Calls Tryd.prog 5 #[.string a, .string b] w fun e w' => e = .returned (.bool true) ∧ Below w.heap.size w w' := by
  have c1 := fun W (hb' : Below w.heap.size w W) => contains_any a b W (hg.below hb') ha hb
  have c2 := fun W => refSplit_any a W ha
  have c3 := fun W => refSplit_any b W hb
  have c4 := fun W (hb' : Below w.heap.size w W) => contains_any pathA pathAB W (hg.below hb') (by decide) (by decide)
  rw [contV_AAB] at c4
  unfold SplitPost at c2 c3
  unfold contV contF contB at c1
  rw [decide_eq_false (fun h => hbad h.2), Bool.false_and, if_pos hok, if_neg hbad] at c1
  rw [hok] at c2
  have hib := splitF_bounds b
  generalize (splitF a).2 = i at *
  generalize (splitF b).1 = c' at *
  generalize (splitF b).2 = i' at *
  have hc1 : (c' != 0) = true := by simpa using hbad
  have hc2 : (c' == 0) = false := by simpa using hbad
  obtain ⟨hi1, hi2⟩ := hib
  have hwrap : IntKind.i64.wrap (-1 - i') = -1 - i' := IntWalk.i64_in _ (by omega)
  clear hbad hok
  have C1 := Lib.hid c1
  have C2 := Lib.hid c2
  have C3 := Lib.hid c3
  have C4 := Lib.hid c4
  clear c1 c2 c3 c4
  go_enter Tryd.func5, Tryd.ntmps5
  go_wp2_with fail
  refine (C1.out _ (Below.refl _ _)).mono ?_
  rintro e w1 ⟨rfl, b1⟩
  have hs1 := b1.size
  go_wp2_with fail
  refine (C2.out _).mono ?_
  rintro e w2 ⟨v2, rfl, S2, b2, _⟩
  have hs2 : w1.heap.size < w2.heap.size := by have := b2.size; simp at this; omega
  have B2 : Below w.heap.size w w2 := (b1.alloc b1.size _).trans (b2.mono (by simp; omega))
  have X1 := Lib.hid ((FBox.new w1 c' (-1 - i') 24).below b2 (by simp))
  have T2 := Lib.hid S2
  clear S2 b1 b2
  go_wp2_with fail
  refine (C3.out _).mono ?_
  rintro e w3 ⟨v3, rfl, S3, b3, _⟩
  have hs3 : w2.heap.size < w3.heap.size := by have := b3.size; simp at this; omega
  have B3 : Below w.heap.size w w3 := (B2.alloc B2.size _).trans (b3.mono (by simp; omega))
  have X1' := Lib.hid ((X1.out.alloc _).below b3 (by simp; omega))
  have X2 := Lib.hid ((FBox.new w2 0 i 24).below b3 (by simp))
  have T2' := Lib.hid ((T2.out.alloc (Nat.le_refl _) (.cells #[.int .i64 0, .int .i64 i] 24)).below (b3.mono (by simp)))
  have T3 := Lib.hid S3
  clear S3 b3 X1 T2
  go_wp2_with fail
  refine (C4.out _ (B3.alloc B3.size _)).mono ?_
  rintro e w4 ⟨rfl, b4⟩
  have hs4 : w3.heap.size < w4.heap.size := by have := b4.size; simp at this; omega
  have B4 : Below w.heap.size w w4 := (B3.alloc B3.size _).trans (b4.mono (by simp; omega))
  have Y1 := Lib.hid ((X1'.out.alloc _).below b4 (by simp; omega))
  have Y2 := Lib.hid ((X2.out.alloc _).below b4 (by simp; omega))
  have Y3 := Lib.hid ((FBox.new w3 c' i' 24).below b4 (by simp))
  have T2'' := Lib.hid ((T2'.out.alloc (by omega) (.cells #[.int .i64 c', .int .i64 i'] 24)).below (b4.mono (by simp; omega)))
  have T3' := Lib.hid ((T3.out.alloc (Nat.le_refl _) (.cells #[.int .i64 c', .int .i64 i'] 24)).below (b4.mono (by simp)))
  clear b4 X1' X2 T2' T3
  obtain ⟨l1, g0, g1, f0, f1⟩ := Y1.out
  obtain ⟨l2, k0, k1, e0, e1⟩ := Y2.out
  obtain ⟨l3, m0, m1, n0, n1⟩ := Y3.out
  go_wp2_with fail
  refine (newFault_any _ _ _).mono ?_
  rintro e w5 ⟨rfl, b5⟩
  have B5 : Below w.heap.size w w5 := (B4.alloc B4.size _).trans (b5.mono (by simp; omega))
  obtain ⟨l1', g0', g1', f0', f1'⟩ := (Y1.out.alloc _).below b5 (by simp; omega)
  obtain ⟨l2', k0', k1', e0', e1'⟩ := (Y2.out.alloc _).below b5 (by simp; omega)
  have hs5 : w4.heap.size < w5.heap.size := by have := b5.size; simp at this; omega
  have hne : ¬ w2.heap.size = w1.heap.size := by omega
  have hne2 : ¬ w1.heap.size = w2.heap.size := by omega
  clear b5 g0 g1 f0 f1 k0 k1 e0 e1 m0 m1 n0 n1
  go_wp2
  go_ret
  refine ⟨rfl, ?_⟩
  repeat (first | exact B5 | refine Below.setCell ?_ (by first | omega | (simp; done) | (simp; omega)) _ | refine Below.alloc ?_ (by first | omega | (simp; done) | (simp; omega)) _ | refine Below.drew ?_)

set_option maxHeartbeats 1000000 in
theorem lawContains_ok (a b : ByteArray) (w : World) (hg : GM w) (ha : a.size ≤ maxLen) (hb : b.size ≤ maxLen) (hok : (splitF a).1 = 0) (hok2 : (splitF b).1 = 0) :
    Calls Tryd.prog 5 #[.string a, .string b] w fun e w' => e = .returned (.bool true) ∧ Below w.heap.size w w' := by
  have c1 := fun W (hb' : Below w.heap.size w W) => contains_any a b W (hg.below hb') ha hb
  have c2 := fun W => refSplit_any a W ha
  have c3 := fun W => refSplit_any b W hb
  have c4 := fun W (hb' : Below w.heap.size w W) => contains_any pathA pathAB W (hg.below hb') (by decide) (by decide)
  rw [contV_AAB] at c4
  unfold SplitPost at c2 c3
  unfold contV contF contB at c1
  rw [decide_eq_true ⟨hok, hok2⟩, Bool.true_and, if_pos hok, if_pos hok2] at c1
  rw [hok, splitF_zero hok] at c2
  rw [hok2, splitF_zero hok2] at c3
  generalize splitL a = xs at *
  generalize splitL b = ys at *
  clear hok hok2
  have C1 := Lib.hid c1
  have C2 := Lib.hid c2
  have C3 := Lib.hid c3
  have C4 := Lib.hid c4
  clear c1 c2 c3 c4
  go_enter Tryd.func5, Tryd.ntmps5
  go_wp2_with fail
  refine (C1.out _ (Below.refl _ _)).mono ?_
  rintro e w1 ⟨rfl, b1⟩
  have hs1 := b1.size
  go_wp2_with fail
  refine (C2.out _).mono ?_
  rintro e w2 ⟨v2, rfl, S2, b2, _⟩
  have hs2 : w1.heap.size < w2.heap.size := by have := b2.size; simp at this; omega
  have B2 : Below w.heap.size w w2 := (b1.alloc b1.size _).trans (b2.mono (by simp; omega))
  have X1 := Lib.hid ((FBox.new w1 0 0 24).below b2 (by simp))
  have T2 := Lib.hid S2
  clear S2 b1 b2
  go_wp2_with fail
  refine (C3.out _).mono ?_
  rintro e w3 ⟨v3, rfl, S3, b3, _⟩
  have hs3 : w2.heap.size < w3.heap.size := by have := b3.size; simp at this; omega
  have B3 : Below w.heap.size w w3 := (B2.alloc B2.size _).trans (b3.mono (by simp; omega))
  have X1' := Lib.hid ((X1.out.alloc _).below b3 (by simp; omega))
  have X2 := Lib.hid ((FBox.new w2 0 0 24).below b3 (by simp))
  have T2' := Lib.hid ((T2.out.alloc (Nat.le_refl _) (.cells #[.int .i64 0, .int .i64 0] 24)).below (b3.mono (by simp)))
  have T3 := Lib.hid S3
  clear S3 b3 X1 T2
  go_wp2_with fail
  refine (C4.out _ (B3.alloc B3.size _)).mono ?_
  rintro e w4 ⟨rfl, b4⟩
  have hs4 : w3.heap.size < w4.heap.size := by have := b4.size; simp at this; omega
  have B4 : Below w.heap.size w w4 := (B3.alloc B3.size _).trans (b4.mono (by simp; omega))
  have Y1 := Lib.hid ((X1'.out.alloc _).below b4 (by simp; omega))
  have Y2 := Lib.hid ((X2.out.alloc _).below b4 (by simp; omega))
  have Y3 := Lib.hid ((FBox.new w3 0 0 24).below b4 (by simp))
  have T2'' := Lib.hid ((T2'.out.alloc (by omega) (.cells #[.int .i64 0, .int .i64 0] 24)).below (b4.mono (by simp; omega)))
  have T3' := Lib.hid ((T3.out.alloc (Nat.le_refl _) (.cells #[.int .i64 0, .int .i64 0] 24)).below (b4.mono (by simp)))
  clear b4 X1' X2 T2' T3
  obtain ⟨l1, g0, g1, f0, f1⟩ := Y1.out
  obtain ⟨l2, k0, k1, e0, e1⟩ := Y2.out
  obtain ⟨l3, m0, m1, n0, n1⟩ := Y3.out
  go_wp2_with fail
  have U2 := (T2''.out.alloc (by omega) (.cells #[.int .i64 0, .int .i64 0] 24)).more (B' := (w4.alloc (.cells #[.int .i64 0, .int .i64 0] 24)).heap.size) (by simp; omega)
  have U3 := (T3'.out.alloc (by omega) (.cells #[.int .i64 0, .int .i64 0] 24)).more (B' := (w4.alloc (.cells #[.int .i64 0, .int .i64 0] 24)).heap.size) (by simp; omega)
  refine (hasPrefix_any _ _ _ _ _ U2 U3).mono ?_
  rintro e w5 ⟨rfl, b5⟩
  have B5 : Below w.heap.size w w5 := (B4.alloc B4.size _).trans (b5.mono (by simp; omega))
  clear U2 U3 b5
  generalize pre xs ys = pb at *
  go_wp2
  go_ret
  refine ⟨rfl, ?_⟩
  repeat (first | exact B5 | refine Below.setCell ?_ (by first | omega | (simp; done) | (simp; omega)) _ | refine Below.alloc ?_ (by first | omega | (simp; done) | (simp; omega)) _ | refine Below.drew ?_)

theorem lawContains_any (a b : ByteArray) (w : World) (hg : GM w) (ha : a.size ≤ maxLen) (hb : b.size ≤ maxLen) :
    Calls Tryd.prog 5 #[.string a, .string b] w fun e w' => e = .returned (.bool true) ∧ Below w.heap.size w w' := by
  by_cases h1 : (splitF a).1 = 0
  · by_cases h2 : (splitF b).1 = 0
    · exact lawContains_ok a b w hg ha hb h1 h2
    · exact lawContains_badB a b w hg ha hb h1 h2
  · exact lawContains_badA a b w hg ha hb h1

end Go.Proofs.YtmjpcpnjppmnkaaDoor
