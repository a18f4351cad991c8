/- The law PathRoundTrip returns true at every string. Conditions: those of path.Split. -/
import Derived.Test.YtmjpcpnjppmnkaaDoorPathClean
namespace Go.Proofs.YtmjpcpnjppmnkaaDoor
open Go.RowKit

theorem joinV_a : joinV [strA] = .tuple #[.string ⟨#[47, 97]⟩, .agg #[.int .i64 0, .int .i64 0]] := by
  rw [joinV_good (splitF_one vnameA) (by decide)]; rfl
theorem strs_one (W : World) (n t : Nat) (hn : n = W.heap.size) : Strs (W.alloc (.cells #[.string strA] t)) (W.alloc (.cells #[.string strA] t)).heap.size (.slice (some ⟨n, 0, none⟩) 1 1) [strA] := by
  subst hn
  refine ⟨_, _, rfl, by simp, by simp, ?_, fun _ => ⟨_, _, rfl, by simp, ?_⟩⟩
  · intro x hx
    rcases List.mem_cons.1 hx with rfl | hx
    · decide
    · cases hx
  · intro j hj
    match j, hj with
    | 0, _ => simp
theorem valid_size {p : ByteArray} (h : (splitF p).1 = 0) : p.size ≤ maxLen := by
  have := (clean_valid h).1
  unfold maxLen; omega

set_option maxHeartbeats 1000000 in
theorem lawTrip_none (s : ByteArray) (w : World) (hg : GM w) (hs : s.size ≤ maxLen) (hbad : (splitF s).1 ≠ 0) (x5 i5 : Int) (hx5 : x5 ≠ 0) (e5 : cleanV s = .tuple #[.string ⟨#[]⟩, .agg #[.int .i64 x5, .int .i64 i5]]) :
    Calls Tryd.prog 6 #[.string s] w fun e w' => e = .returned (.bool true) ∧ Below w.heap.size w w' := by
  have c2 := fun W (hb : Below w.heap.size w W) => pathSplit_any s W (hg.below hb) hs
  have c5 := fun W (hb : Below w.heap.size w W) => pathClean_any s W (hg.below hb) hs
  unfold SplitPost at c2
  rw [e5] at c5
  generalize (splitF s).1 = c at *
  generalize (splitF s).2 = i at *
  have hc1 : (c != 0) = true := by simpa using hbad
  have hc2 : (c == 0) = false := by simpa using hbad
  have hd1 : (x5 != 0) = true := by simpa using hx5
  have C2 := Lib.hid c2
  have C5 := Lib.hid c5
  clear c2 c5 e5 hbad hx5
  go_enter Tryd.func6, Tryd.ntmps6
  go_wp2_with fail
  refine (pathJoin_any _ [strA] _ (strs_one _ _ 9 rfl)).mono ?_
  rw [joinV_a]
  rintro e w1 ⟨rfl, b1⟩
  have B1 : Below w.heap.size w w1 := ((Below.refl _ _).alloc (Nat.le_refl _) _).trans (b1.mono (by simp))
  have hs1 := B1.size
  clear b1
  go_wp2_with fail
  refine (C2.out _ (B1.alloc B1.size _)).mono ?_
  rintro e w2 ⟨v2, rfl, S2, b2, hvb2⟩
  clear hvb2
  have hs2 : w1.heap.size < w2.heap.size := by have := b2.size; simp at this; omega
  have B2 : Below w.heap.size w w2 := (B1.alloc B1.size _).trans (b2.mono (by simp; omega))
  have T2 := Lib.hid S2
  clear b2 S2
  go_wp2_with fail
  refine (C5.out _ (B2.alloc B2.size _)).mono ?_
  rintro e w5 ⟨rfl, b5⟩
  have hs5 : w2.heap.size < w5.heap.size := by have := b5.size; simp at this; omega
  have B5 : Below w.heap.size w w5 := (B2.alloc B2.size _).trans (b5.mono (by simp; omega))
  clear b5
  go_wp2
  go_ret
  refine ⟨rfl, ?_⟩
  repeat (first | exact B5 | refine Below.setCell ?_ (by first | omega | (simp; done) | (simp; omega)) _ | refine Below.alloc ?_ (by first | omega | (simp; done) | (simp; omega)) _ | refine Below.drew ?_)

set_option maxHeartbeats 1000000 in
theorem lawTrip_some (s : ByteArray) (w : World) (hg : GM w) (hs : s.size ≤ maxLen) (hbad : (splitF s).1 ≠ 0) (p : ByteArray) (hp : (splitF p).1 = 0) (e5 : cleanV s = .tuple #[.string p, .agg #[.int .i64 0, .int .i64 0]]) :
    Calls Tryd.prog 6 #[.string s] w fun e w' => e = .returned (.bool true) ∧ Below w.heap.size w w' := by
  have c2 := fun W (hb : Below w.heap.size w W) => pathSplit_any s W (hg.below hb) hs
  have c5 := fun W (hb : Below w.heap.size w W) => pathClean_any s W (hg.below hb) hs
  unfold SplitPost at c2
  have c6 := fun W (hb : Below w.heap.size w W) => pathClean_any p W (hg.below hb) (valid_size hp)
  have c7 := fun W (hb : Below w.heap.size w W) => pathSplit_any p W (hg.below hb) (valid_size hp)
  rw [cleanV_valid hp] at c6
  unfold SplitPost at c7
  rw [hp, splitF_zero hp] at c7
  have J8 := Lib.hid (pstr_valid hp)
  rw [e5] at c5
  generalize (splitF s).1 = c at *
  generalize (splitF s).2 = i at *
  have hc1 : (c != 0) = true := by simpa using hbad
  have hc2 : (c == 0) = false := by simpa using hbad
  have C2 := Lib.hid c2
  have C5 := Lib.hid c5
  have C6 := Lib.hid c6
  have C7 := Lib.hid c7
  clear c2 c5 c6 c7 e5 hbad hp
  go_enter Tryd.func6, Tryd.ntmps6
  go_wp2_with fail
  refine (pathJoin_any _ [strA] _ (strs_one _ _ 9 rfl)).mono ?_
  rw [joinV_a]
  rintro e w1 ⟨rfl, b1⟩
  have B1 : Below w.heap.size w w1 := ((Below.refl _ _).alloc (Nat.le_refl _) _).trans (b1.mono (by simp))
  have hs1 := B1.size
  clear b1
  go_wp2_with fail
  refine (C2.out _ (B1.alloc B1.size _)).mono ?_
  rintro e w2 ⟨v2, rfl, S2, b2, hvb2⟩
  clear hvb2
  have hs2 : w1.heap.size < w2.heap.size := by have := b2.size; simp at this; omega
  have B2 : Below w.heap.size w w2 := (B1.alloc B1.size _).trans (b2.mono (by simp; omega))
  have T2 := Lib.hid S2
  clear b2 S2
  go_wp2_with fail
  refine (C5.out _ (B2.alloc B2.size _)).mono ?_
  rintro e w5 ⟨rfl, b5⟩
  have hs5 : w2.heap.size < w5.heap.size := by have := b5.size; simp at this; omega
  have B5 : Below w.heap.size w w5 := (B2.alloc B2.size _).trans (b5.mono (by simp; omega))
  clear b5
  go_wp2_with fail
  refine (C6.out _ (B5.alloc B5.size _)).mono ?_
  rintro e w6 ⟨rfl, b6⟩
  have hs6 : w5.heap.size < w6.heap.size := by have := b6.size; simp at this; omega
  have B6 : Below w.heap.size w w6 := (B5.alloc B5.size _).trans (b6.mono (by simp; omega))
  clear b6
  go_wp2_with fail
  refine (C7.out _ (B6.alloc B6.size _)).mono ?_
  rintro e w7 ⟨v7, rfl, S7, b7, hvb7⟩
  clear hvb7
  have hs7 : w6.heap.size < w7.heap.size := by have := b7.size; simp at this; omega
  have B7 : Below w.heap.size w w7 := (B6.alloc B6.size _).trans (b7.mono (by simp; omega))
  have X6 := Lib.hid ((FBox.new w6 0 0 24).below b7 (by simp))
  have T7 := Lib.hid ((S7.alloc (Nat.le_refl _) (.cells #[.int .i64 0, .int .i64 0] 24)).more (B' := (w7.alloc (.cells #[.int .i64 0, .int .i64 0] 24)).heap.size) (by simp))
  clear b7 S7
  go_wp2_with fail
  refine (pathJoin_any _ _ _ T7.out).mono ?_
  rw [J8.out]
  rintro e w8 ⟨rfl, b8⟩
  have hs8 : w7.heap.size < w8.heap.size := by have := b8.size; simp at this; omega
  have B8 : Below w.heap.size w w8 := (B7.alloc B7.size _).trans (b8.mono (by simp; omega))
  obtain ⟨l6, g6, k6, f6, e6⟩ := (X6.out.alloc _).below b8 (by simp; omega)
  obtain ⟨l7, g7, k7, f7, e7⟩ := (FBox.new w7 0 0 24).below b8 (by simp)
  clear b8
  go_wp2
  go_ret
  refine ⟨rfl, ?_⟩
  repeat (first | exact B8 | refine Below.setCell ?_ (by first | omega | (simp; done) | (simp; omega)) _ | refine Below.alloc ?_ (by first | omega | (simp; done) | (simp; omega)) _ | refine Below.drew ?_)

set_option maxHeartbeats 1000000 in
theorem lawTrip_valid (s : ByteArray) (w : World) (hg : GM w) (hs : s.size ≤ maxLen) (hp : (splitF s).1 = 0) :
    Calls Tryd.prog 6 #[.string s] w fun e w' => e = .returned (.bool true) ∧ Below w.heap.size w w' := by
  have c2 := fun W (hb : Below w.heap.size w W) => pathSplit_any s W (hg.below hb) hs
  have c5 := fun W (hb : Below w.heap.size w W) => pathClean_any s W (hg.below hb) hs
  unfold SplitPost at c2
  have c6 := fun W (hb : Below w.heap.size w W) => pathClean_any s W (hg.below hb) (valid_size hp)
  have c7 := fun W (hb : Below w.heap.size w W) => pathSplit_any s W (hg.below hb) (valid_size hp)
  rw [cleanV_valid hp] at c6
  unfold SplitPost at c7
  rw [hp, splitF_zero hp] at c7
  have J8 := Lib.hid (pstr_valid hp)
  rw [hp, splitF_zero hp] at c2
  rw [cleanV_valid hp] at c5
  have C2 := Lib.hid c2
  have C5 := Lib.hid c5
  have C6 := Lib.hid c6
  have C7 := Lib.hid c7
  clear c2 c5 c6 c7 hp
  go_enter Tryd.func6, Tryd.ntmps6
  go_wp2_with fail
  refine (pathJoin_any _ [strA] _ (strs_one _ _ 9 rfl)).mono ?_
  rw [joinV_a]
  rintro e w1 ⟨rfl, b1⟩
  have B1 : Below w.heap.size w w1 := ((Below.refl _ _).alloc (Nat.le_refl _) _).trans (b1.mono (by simp))
  have hs1 := B1.size
  clear b1
  go_wp2_with fail
  refine (C2.out _ (B1.alloc B1.size _)).mono ?_
  rintro e w2 ⟨v2, rfl, S2, b2, hvb2⟩
  clear hvb2
  have hs2 : w1.heap.size < w2.heap.size := by have := b2.size; simp at this; omega
  have B2 : Below w.heap.size w w2 := (B1.alloc B1.size _).trans (b2.mono (by simp; omega))
  have T2 := Lib.hid S2
  clear b2 S2
  have T2' := Lib.hid ((T2.out.alloc (Nat.le_refl _) (.cells #[.int .i64 0, .int .i64 0] 24)).more (B' := (w2.alloc (.cells #[.int .i64 0, .int .i64 0] 24)).heap.size) (by simp))
  go_wp2_with fail
  refine (pathJoin_any _ _ _ T2'.out).mono ?_
  rw [J8.out]
  rintro e w3 ⟨rfl, b3⟩
  have hs3 : w2.heap.size < w3.heap.size := by have := b3.size; simp at this; omega
  have B3 : Below w.heap.size w w3 := (B2.alloc B2.size _).trans (b3.mono (by simp; omega))
  clear b3 T2 T2'
  go_wp2_with fail
  refine (C5.out _ (B3.alloc B3.size _)).mono ?_
  rintro e w4 ⟨rfl, b4⟩
  have hs4 : w3.heap.size < w4.heap.size := by have := b4.size; simp at this; omega
  have B4 : Below w.heap.size w w4 := (B3.alloc B3.size _).trans (b4.mono (by simp; omega))
  obtain ⟨l3, g3, k3, f3, e3⟩ := (FBox.new w3 0 0 24).below b4 (by simp)
  clear b4
  go_wp2_with fail
  clear l3 g3 k3 f3 e3
  refine (C5.out _ (B4.alloc B4.size _)).mono ?_
  rintro e w5 ⟨rfl, b5⟩
  have hs5 : w4.heap.size < w5.heap.size := by have := b5.size; simp at this; omega
  have B5 : Below w.heap.size w w5 := (B4.alloc B4.size _).trans (b5.mono (by simp; omega))
  clear b5
  go_wp2_with fail
  refine (C6.out _ (B5.alloc B5.size _)).mono ?_
  rintro e w6 ⟨rfl, b6⟩
  have hs6 : w5.heap.size < w6.heap.size := by have := b6.size; simp at this; omega
  have B6 : Below w.heap.size w w6 := (B5.alloc B5.size _).trans (b6.mono (by simp; omega))
  clear b6
  go_wp2_with fail
  refine (C7.out _ (B6.alloc B6.size _)).mono ?_
  rintro e w7 ⟨v7, rfl, S7, b7, hvb7⟩
  clear hvb7
  have hs7 : w6.heap.size < w7.heap.size := by have := b7.size; simp at this; omega
  have B7 : Below w.heap.size w w7 := (B6.alloc B6.size _).trans (b7.mono (by simp; omega))
  have X6 := Lib.hid ((FBox.new w6 0 0 24).below b7 (by simp))
  have T7 := Lib.hid ((S7.alloc (Nat.le_refl _) (.cells #[.int .i64 0, .int .i64 0] 24)).more (B' := (w7.alloc (.cells #[.int .i64 0, .int .i64 0] 24)).heap.size) (by simp))
  clear b7 S7
  go_wp2_with fail
  refine (pathJoin_any _ _ _ T7.out).mono ?_
  rw [J8.out]
  rintro e w8 ⟨rfl, b8⟩
  have hs8 : w7.heap.size < w8.heap.size := by have := b8.size; simp at this; omega
  have B8 : Below w.heap.size w w8 := (B7.alloc B7.size _).trans (b8.mono (by simp; omega))
  obtain ⟨l6, g6, k6, f6, e6⟩ := (X6.out.alloc _).below b8 (by simp; omega)
  obtain ⟨l7, g7, k7, f7, e7⟩ := (FBox.new w7 0 0 24).below b8 (by simp)
  clear b8
  go_wp2
  go_ret
  refine ⟨rfl, ?_⟩
  repeat (first | exact B8 | refine Below.setCell ?_ (by first | omega | (simp; done) | (simp; omega)) _ | refine Below.alloc ?_ (by first | omega | (simp; done) | (simp; omega)) _ | refine Below.drew ?_)

theorem lawTrip_any (s : ByteArray) (w : World) (hg : GM w) (hs : s.size ≤ maxLen) :
    Calls Tryd.prog 6 #[.string s] w fun e w' => e = .returned (.bool true) ∧ Below w.heap.size w w' := by
  by_cases hp : (splitF s).1 = 0
  · exact lawTrip_valid s w hg hs hp
  · rcases cleanV_cases s with ⟨c, i, hc, e⟩ | ⟨p, hpp, e⟩
    · exact lawTrip_none s w hg hs hp c i hc e
    · exact lawTrip_some s w hg hs hp p hpp e

end Go.Proofs.YtmjpcpnjppmnkaaDoor
