/- The law PathContainsIsPartialOrder returns true at all strings. Conditions: those of path.Contains. -/
import Derived.Test.YtmjpcpnjppmnkaaDoorPathLawContains
namespace Go.Proofs.YtmjpcpnjppmnkaaDoor
open Go.RowKit

theorem pre_refl (xs : List ByteArray) : pre xs xs = true := by unfold pre; simp
theorem pre_nil (xs : List ByteArray) : pre [] xs = true := by unfold pre; simp
theorem pre_trans {xs ys zs : List ByteArray} (h1 : pre xs ys = true) (h2 : pre ys zs = true) : pre xs zs = true := by
  unfold pre at *
  rw [decide_eq_true_iff] at *
  obtain ⟨a1, b1⟩ := h1
  obtain ⟨a2, b2⟩ := h2
  refine ⟨by omega, ?_⟩
  have h3 : ys.take xs.length = (zs.take ys.length).take xs.length := by rw [← b2]
  rw [List.take_take, Nat.min_eq_left a1] at h3
  rw [← h3]; exact b1
theorem pre_anti {xs ys : List ByteArray} (h1 : pre xs ys = true) (h2 : pre ys xs = true) : xs = ys := by
  unfold pre at *
  rw [decide_eq_true_iff] at *
  have e : xs.length = ys.length := by omega
  have := h1.2
  rw [e, List.take_length] at this
  exact this

theorem pieces_flat : ∀ (r : List UInt8), (pieces r).flatMap (fun l => 47 :: l) = 47 :: r
  | [] => rfl
  | c :: r => by
    have ih := pieces_flat r
    by_cases hc : c = 47
    · subst hc
      rw [pieces_slash, List.flatMap_cons, ih]; rfl
    · obtain ⟨p, ps, hp⟩ := pieces_form r
      rw [pieces_other hc hp]
      rw [hp, List.flatMap_cons] at ih
      rw [List.flatMap_cons]
      simp at ih ⊢
      exact ih
theorem comps_flat (r : List UInt8) : pstr (comps r) = 47 :: r := by
  unfold pstr comps
  rw [if_neg (by simpa using pieces_ne r), List.flatMap_map]
  simp only [toB_data]
  exact pieces_flat r
/-- A valid path is its components joined. -/
theorem split_pstr {p : ByteArray} (h : (splitF p).1 = 0) : pstr (splitL p) = p.data.toList := by
  unfold splitL
  rw [if_pos h]
  unfold splitF at h
  split at h
  · cases h
  · split at h
    · cases h
    · rename_i c r hd
      split at h
      · rename_i hc
        subst hc
        by_cases hr : r = []
        · subst hr; rw [if_pos rfl, hd]; rfl
        · rw [if_neg hr, comps_flat, hd]
      · cases h
theorem split_inj {a b : ByteArray} (ha : (splitF a).1 = 0) (hb : (splitF b).1 = 0) (h : splitL a = splitL b) : a = b := by
  have h1 := split_pstr ha
  have h2 := split_pstr hb
  rw [h, h2] at h1
  apply ByteArray.ext
  exact Array.ext' h1.symm

theorem contV_ok {a b : ByteArray} (ha : (splitF a).1 = 0) (hb : (splitF b).1 = 0) : contV a b = .tuple #[.bool (pre (splitL a) (splitL b)), .agg #[.int .i64 0, .int .i64 0]] := by
  unfold contV contF contB; rw [if_pos ha, if_pos hb, decide_eq_true ⟨ha, hb⟩, Bool.true_and]
theorem contV_bad {a b : ByteArray} (h : ¬ ((splitF a).1 = 0 ∧ (splitF b).1 = 0)) : ∃ c i, c ≠ 0 ∧ contV a b = .tuple #[.bool false, .agg #[.int .i64 c, .int .i64 i]] := by
  unfold contV contF contB
  rw [decide_eq_false h, Bool.false_and]
  by_cases ha : (splitF a).1 = 0
  · have hb : (splitF b).1 ≠ 0 := fun e => h ⟨ha, e⟩
    rw [if_pos ha, if_neg hb]
    exact ⟨_, _, hb, rfl⟩
  · rw [if_neg ha]
    exact ⟨_, _, ha, rfl⟩
theorem contV_some (a b : ByteArray) : ∃ t c i, contV a b = .tuple #[.bool t, .agg #[.int .i64 c, .int .i64 i]] := ⟨_, _, _, rfl⟩

set_option maxHeartbeats 1000000 in
theorem lawOrder_bad (a b c : ByteArray) (w : World) (hg : GM w) (ha : a.size ≤ maxLen) (hb : b.size ≤ maxLen) (hc : c.size ≤ maxLen) (hbad : ¬ ((splitF a).1 = 0 ∧ (splitF b).1 = 0)) :
    Calls Tryd.prog 7 #[.string a, .string b, .string c] w fun e w' => e = .returned (.bool true) ∧ Below w.heap.size w w' := by
  have c1 := fun W (hb' : Below w.heap.size w W) => contains_any a b W (hg.below hb') ha hb
  have c2 := fun W (hb' : Below w.heap.size w W) => contains_any b a W (hg.below hb') hb ha
  have c3 := fun W (hb' : Below w.heap.size w W) => contains_any b c W (hg.below hb') hb hc
  have c4 := fun W (hb' : Below w.heap.size w W) => contains_any a c W (hg.below hb') ha hc
  have c5 := fun W (hb' : Below w.heap.size w W) => contains_any pathRoot pathX W (hg.below hb') (by decide) (by decide)
  rw [contV_rootX] at c5
  obtain ⟨x1, i1, hx1, e1⟩ := contV_bad hbad
  obtain ⟨t2, x2, i2, e2⟩ := contV_some b a
  obtain ⟨t3, x3, i3, e3⟩ := contV_some b c
  obtain ⟨t4, x4, i4, e4⟩ := contV_some a c
  rw [e1] at c1
  rw [e2] at c2
  rw [e3] at c3
  rw [e4] at c4
  have hn1 : (x1 != 0) = true := by simpa using hx1
  have hn2 : (x1 == 0) = false := by simpa using hx1
  clear e1 e2 e3 e4 hx1 hbad
  have C1 := Lib.hid c1
  have C2 := Lib.hid c2
  have C3 := Lib.hid c3
  have C4 := Lib.hid c4
  have C5 := Lib.hid c5
  clear c1 c2 c3 c4 c5
  go_enter Tryd.func7, Tryd.ntmps7
  go_wp2_with fail
  refine (C1.out _ (Below.refl _ _)).mono ?_
  rintro e w1 ⟨rfl, B1⟩
  have hs1 := B1.size
  go_wp2_with fail
  refine (C2.out _ (B1.alloc B1.size _)).mono ?_
  rintro e w2 ⟨rfl, b2⟩
  have hs2 : w1.heap.size < w2.heap.size := by have := b2.size; simp at this; omega
  have B2 : Below w.heap.size w w2 := (B1.alloc B1.size _).trans (b2.mono (by simp; omega))
  have X1_2 := Lib.hid ((FBox.new w1 x1 i1 24).below b2 (by simp))
  clear b2 
  go_wp2_with fail
  refine (C3.out _ (B2.alloc B2.size _)).mono ?_
  rintro e w3 ⟨rfl, b3⟩
  have hs3 : w2.heap.size < w3.heap.size := by have := b3.size; simp at this; omega
  have B3 : Below w.heap.size w w3 := (B2.alloc B2.size _).trans (b3.mono (by simp; omega))
  have X1_3 := Lib.hid ((X1_2.out.alloc _).below b3 (by simp; omega))
  have X2_3 := Lib.hid ((FBox.new w2 x2 i2 24).below b3 (by simp))
  clear b3 X1_2
  go_wp2_with fail
  refine (C4.out _ (B3.alloc B3.size _)).mono ?_
  rintro e w4 ⟨rfl, b4⟩
  have hs4 : w3.heap.size < w4.heap.size := by have := b4.size; simp at this; omega
  have B4 : Below w.heap.size w w4 := (B3.alloc B3.size _).trans (b4.mono (by simp; omega))
  have X1_4 := Lib.hid ((X1_3.out.alloc _).below b4 (by simp; omega))
  have X2_4 := Lib.hid ((X2_3.out.alloc _).below b4 (by simp; omega))
  have X3_4 := Lib.hid ((FBox.new w3 x3 i3 24).below b4 (by simp))
  clear b4 X1_3 X2_3
  go_wp2_with fail
  refine (C5.out _ (B4.alloc B4.size _)).mono ?_
  rintro e w5 ⟨rfl, b5⟩
  have hs5 : w4.heap.size < w5.heap.size := by have := b5.size; simp at this; omega
  have B5 : Below w.heap.size w w5 := (B4.alloc B4.size _).trans (b5.mono (by simp; omega))
  have X1_5 := Lib.hid ((X1_4.out.alloc _).below b5 (by simp; omega))
  have X2_5 := Lib.hid ((X2_4.out.alloc _).below b5 (by simp; omega))
  have X3_5 := Lib.hid ((X3_4.out.alloc _).below b5 (by simp; omega))
  have X4_5 := Lib.hid ((FBox.new w4 x4 i4 24).below b5 (by simp))
  clear b5 X1_4 X2_4 X3_4
  obtain ⟨l1, g1, k1, f1, e1⟩ := X1_5.out
  obtain ⟨l2, g2, k2, f2, e2⟩ := X2_5.out
  obtain ⟨l3, g3, k3, f3, e3⟩ := X3_5.out
  obtain ⟨l4, g4, k4, f4, e4⟩ := X4_5.out
  go_wp2
  go_ret
  refine ⟨rfl, ?_⟩
  repeat (first | exact B5 | refine Below.setCell ?_ (by first | omega | (simp; done) | (simp; omega)) _ | refine Below.alloc ?_ (by first | omega | (simp; done) | (simp; omega)) _ | refine Below.drew ?_)

set_option maxHeartbeats 1000000 in
theorem lawOrder_badC (a b c : ByteArray) (w : World) (hg : GM w) (ha : a.size ≤ maxLen) (hb : b.size ≤ maxLen) (hc : c.size ≤ maxLen) (h1 : (splitF a).1 = 0) (h2 : (splitF b).1 = 0) (h3 : (splitF c).1 ≠ 0) :
    Calls Tryd.prog 7 #[.string a, .string b, .string c] w fun e w' => e = .returned (.bool true) ∧ Below w.heap.size w w' := by
  have c1 := fun W (hb' : Below w.heap.size w W) => contains_any a b W (hg.below hb') ha hb
  have c2 := fun W (hb' : Below w.heap.size w W) => contains_any b a W (hg.below hb') hb ha
  have c3 := fun W (hb' : Below w.heap.size w W) => contains_any b c W (hg.below hb') hb hc
  have c4 := fun W (hb' : Below w.heap.size w W) => contains_any a c W (hg.below hb') ha hc
  have c5 := fun W (hb' : Below w.heap.size w W) => contains_any pathRoot pathX W (hg.below hb') (by decide) (by decide)
  rw [contV_rootX] at c5
  obtain ⟨x3, i3, hx3, e3⟩ := contV_bad (a := b) (b := c) (fun h => h3 h.2)
  obtain ⟨x4, i4, hx4, e4⟩ := contV_bad (a := a) (b := c) (fun h => h3 h.2)
  rw [contV_ok h1 h2] at c1
  rw [contV_ok h2 h1] at c2
  rw [e3] at c3
  rw [e4] at c4
  generalize pre (splitL a) (splitL b) = t1 at *
  generalize pre (splitL b) (splitL a) = t2 at *
  have hn3 : (x3 != 0) = true := by simpa using hx3
  have hn4 : (x4 != 0) = true := by simpa using hx4
  clear e3 e4 hx3 hx4 h1 h2 h3
  have C1 := Lib.hid c1
  have C2 := Lib.hid c2
  have C3 := Lib.hid c3
  have C4 := Lib.hid c4
  have C5 := Lib.hid c5
  clear c1 c2 c3 c4 c5
  go_enter Tryd.func7, Tryd.ntmps7
  go_wp2_with fail
  refine (C1.out _ (Below.refl _ _)).mono ?_
  rintro e w1 ⟨rfl, B1⟩
  have hs1 := B1.size
  go_wp2_with fail
  refine (C2.out _ (B1.alloc B1.size _)).mono ?_
  rintro e w2 ⟨rfl, b2⟩
  have hs2 : w1.heap.size < w2.heap.size := by have := b2.size; simp at this; omega
  have B2 : Below w.heap.size w w2 := (B1.alloc B1.size _).trans (b2.mono (by simp; omega))
  have X1_2 := Lib.hid ((FBox.new w1 0 0 24).below b2 (by simp))
  clear b2 
  go_wp2_with fail
  refine (C3.out _ (B2.alloc B2.size _)).mono ?_
  rintro e w3 ⟨rfl, b3⟩
  have hs3 : w2.heap.size < w3.heap.size := by have := b3.size; simp at this; omega
  have B3 : Below w.heap.size w w3 := (B2.alloc B2.size _).trans (b3.mono (by simp; omega))
  have X1_3 := Lib.hid ((X1_2.out.alloc _).below b3 (by simp; omega))
  have X2_3 := Lib.hid ((FBox.new w2 0 0 24).below b3 (by simp))
  clear b3 X1_2
  go_wp2_with fail
  refine (C4.out _ (B3.alloc B3.size _)).mono ?_
  rintro e w4 ⟨rfl, b4⟩
  have hs4 : w3.heap.size < w4.heap.size := by have := b4.size; simp at this; omega
  have B4 : Below w.heap.size w w4 := (B3.alloc B3.size _).trans (b4.mono (by simp; omega))
  have X1_4 := Lib.hid ((X1_3.out.alloc _).below b4 (by simp; omega))
  have X2_4 := Lib.hid ((X2_3.out.alloc _).below b4 (by simp; omega))
  have X3_4 := Lib.hid ((FBox.new w3 x3 i3 24).below b4 (by simp))
  clear b4 X1_3 X2_3
  go_wp2_with fail
  refine (C5.out _ (B4.alloc B4.size _)).mono ?_
  rintro e w5 ⟨rfl, b5⟩
  have hs5 : w4.heap.size < w5.heap.size := by have := b5.size; simp at this; omega
  have B5 : Below w.heap.size w w5 := (B4.alloc B4.size _).trans (b5.mono (by simp; omega))
  have X1_5 := Lib.hid ((X1_4.out.alloc _).below b5 (by simp; omega))
  have X2_5 := Lib.hid ((X2_4.out.alloc _).below b5 (by simp; omega))
  have X3_5 := Lib.hid ((X3_4.out.alloc _).below b5 (by simp; omega))
  have X4_5 := Lib.hid ((FBox.new w4 x4 i4 24).below b5 (by simp))
  clear b5 X1_4 X2_4 X3_4
  obtain ⟨l1, g1, k1, f1, e1⟩ := X1_5.out
  obtain ⟨l2, g2, k2, f2, e2⟩ := X2_5.out
  obtain ⟨l3, g3, k3, f3, e3⟩ := X3_5.out
  obtain ⟨l4, g4, k4, f4, e4⟩ := X4_5.out
  go_wp2
  go_ret
  refine ⟨rfl, ?_⟩
  repeat (first | exact B5 | refine Below.setCell ?_ (by first | omega | (simp; done) | (simp; omega)) _ | refine Below.alloc ?_ (by first | omega | (simp; done) | (simp; omega)) _ | refine Below.drew ?_)

set_option maxHeartbeats 1000000 in
theorem lawOrder_ok (a b c : ByteArray) (w : World) (hg : GM w) (ha : a.size ≤ maxLen) (hb : b.size ≤ maxLen) (hc : c.size ≤ maxLen) (h1 : (splitF a).1 = 0) (h2 : (splitF b).1 = 0) (h3 : (splitF c).1 = 0) :
    Calls Tryd.prog 7 #[.string a, .string b, .string c] w fun e w' => e = .returned (.bool true) ∧ Below w.heap.size w w' := by
  have c1 := fun W (hb' : Below w.heap.size w W) => contains_any a b W (hg.below hb') ha hb
  have c2 := fun W (hb' : Below w.heap.size w W) => contains_any b a W (hg.below hb') hb ha
  have c3 := fun W (hb' : Below w.heap.size w W) => contains_any b c W (hg.below hb') hb hc
  have c4 := fun W (hb' : Below w.heap.size w W) => contains_any a c W (hg.below hb') ha hc
  have c5 := fun W (hb' : Below w.heap.size w W) => contains_any pathRoot pathX W (hg.below hb') (by decide) (by decide)
  rw [contV_rootX] at c5
  have c6 := fun W (hb' : Below w.heap.size w W) => contains_any a a W (hg.below hb') ha ha
  have c7 := fun W (hb' : Below w.heap.size w W) => contains_any pathRoot a W (hg.below hb') (by decide) ha
  rw [contV_ok h1 h2] at c1
  rw [contV_ok h2 h1] at c2
  rw [contV_ok h2 h3] at c3
  rw [contV_ok h1 h3] at c4
  rw [contV_ok h1 h1, pre_refl] at c6
  rw [contV_ok (by rw [splitF_root]) h1, splitL_root, pre_nil] at c7
  have ht := @pre_trans (splitL a) (splitL b) (splitL c)
  have hi : pre (splitL a) (splitL b) = true → pre (splitL b) (splitL a) = true → (a.toList == b.toList) = true := fun p q => by
    rw [split_inj h1 h2 (pre_anti p q)]; simp
  generalize pre (splitL a) (splitL b) = t1 at *
  generalize pre (splitL b) (splitL a) = t2 at *
  generalize pre (splitL b) (splitL c) = t3 at *
  generalize pre (splitL a) (splitL c) = t4 at *
  have HT := Lib.hid ht
  have HI := Lib.hid hi
  have C6 := Lib.hid c6
  have C7 := Lib.hid c7
  clear ht hi c6 c7 h1 h2 h3
  have C1 := Lib.hid c1
  have C2 := Lib.hid c2
  have C3 := Lib.hid c3
  have C4 := Lib.hid c4
  have C5 := Lib.hid c5
  clear c1 c2 c3 c4 c5
  go_enter Tryd.func7, Tryd.ntmps7
  go_wp2_with fail
  refine (C1.out _ (Below.refl _ _)).mono ?_
  rintro e w1 ⟨rfl, B1⟩
  have hs1 := B1.size
  go_wp2_with fail
  refine (C2.out _ (B1.alloc B1.size _)).mono ?_
  rintro e w2 ⟨rfl, b2⟩
  have hs2 : w1.heap.size < w2.heap.size := by have := b2.size; simp at this; omega
  have B2 : Below w.heap.size w w2 := (B1.alloc B1.size _).trans (b2.mono (by simp; omega))
  have X1_2 := Lib.hid ((FBox.new w1 0 0 24).below b2 (by simp))
  clear b2 
  go_wp2_with fail
  refine (C3.out _ (B2.alloc B2.size _)).mono ?_
  rintro e w3 ⟨rfl, b3⟩
  have hs3 : w2.heap.size < w3.heap.size := by have := b3.size; simp at this; omega
  have B3 : Below w.heap.size w w3 := (B2.alloc B2.size _).trans (b3.mono (by simp; omega))
  have X1_3 := Lib.hid ((X1_2.out.alloc _).below b3 (by simp; omega))
  have X2_3 := Lib.hid ((FBox.new w2 0 0 24).below b3 (by simp))
  clear b3 X1_2
  go_wp2_with fail
  refine (C4.out _ (B3.alloc B3.size _)).mono ?_
  rintro e w4 ⟨rfl, b4⟩
  have hs4 : w3.heap.size < w4.heap.size := by have := b4.size; simp at this; omega
  have B4 : Below w.heap.size w w4 := (B3.alloc B3.size _).trans (b4.mono (by simp; omega))
  have X1_4 := Lib.hid ((X1_3.out.alloc _).below b4 (by simp; omega))
  have X2_4 := Lib.hid ((X2_3.out.alloc _).below b4 (by simp; omega))
  have X3_4 := Lib.hid ((FBox.new w3 0 0 24).below b4 (by simp))
  clear b4 X1_3 X2_3
  go_wp2_with fail
  refine (C5.out _ (B4.alloc B4.size _)).mono ?_
  rintro e w5 ⟨rfl, b5⟩
  have hs5 : w4.heap.size < w5.heap.size := by have := b5.size; simp at this; omega
  have B5 : Below w.heap.size w w5 := (B4.alloc B4.size _).trans (b5.mono (by simp; omega))
  have X1_5 := Lib.hid ((X1_4.out.alloc _).below b5 (by simp; omega))
  have X2_5 := Lib.hid ((X2_4.out.alloc _).below b5 (by simp; omega))
  have X3_5 := Lib.hid ((X3_4.out.alloc _).below b5 (by simp; omega))
  have X4_5 := Lib.hid ((FBox.new w4 0 0 24).below b5 (by simp))
  clear b5 X1_4 X2_4 X3_4
  obtain ⟨l1, g1, k1, f1, e1⟩ := X1_5.out
  obtain ⟨l2, g2, k2, f2, e2⟩ := X2_5.out
  obtain ⟨l3, g3, k3, f3, e3⟩ := X3_5.out
  obtain ⟨l4, g4, k4, f4, e4⟩ := X4_5.out
  go_wp2_with fail
  refine (C6.out _ (B5.alloc B5.size _)).mono ?_
  rintro e w6 ⟨rfl, b6⟩
  have hs6 : w5.heap.size < w6.heap.size := by have := b6.size; simp at this; omega
  have B6 : Below w.heap.size w w6 := (B5.alloc B5.size _).trans (b6.mono (by simp; omega))
  have X1_6 := Lib.hid ((X1_5.out.alloc _).below b6 (by simp; omega))
  have X2_6 := Lib.hid ((X2_5.out.alloc _).below b6 (by simp; omega))
  have X3_6 := Lib.hid ((X3_5.out.alloc _).below b6 (by simp; omega))
  have X4_6 := Lib.hid ((X4_5.out.alloc _).below b6 (by simp; omega))
  have X5_6 := Lib.hid ((FBox.new w5 0 0 24).below b6 (by simp))
  clear b6 X1_5 X2_5 X3_5 X4_5
  go_wp2_with fail
  refine (C7.out _ (B6.alloc B6.size _)).mono ?_
  rintro e w7 ⟨rfl, b7⟩
  have hs7 : w6.heap.size < w7.heap.size := by have := b7.size; simp at this; omega
  have B7 : Below w.heap.size w w7 := (B6.alloc B6.size _).trans (b7.mono (by simp; omega))
  have X1_7 := Lib.hid ((X1_6.out.alloc _).below b7 (by simp; omega))
  have X2_7 := Lib.hid ((X2_6.out.alloc _).below b7 (by simp; omega))
  have X3_7 := Lib.hid ((X3_6.out.alloc _).below b7 (by simp; omega))
  have X4_7 := Lib.hid ((X4_6.out.alloc _).below b7 (by simp; omega))
  have X5_7 := Lib.hid ((X5_6.out.alloc _).below b7 (by simp; omega))
  have X6_7 := Lib.hid ((FBox.new w6 0 0 24).below b7 (by simp))
  clear b7 X1_6 X2_6 X3_6 X4_6 X5_6
  clear l1 g1 k1 f1 e1 l2 g2 k2 f2 e2 l3 g3 k3 f3 e3 l4 g4 k4 f4 e4
  obtain ⟨l6, g6, k6, f6, e6⟩ := X6_7.out
  go_wp2
  all_goals
    go_ret
    refine ⟨ret_bool ?_, ?_⟩
    · first
        | rfl
        | (have p := HT.out
           have q := HI.out
           simp_all)
    · repeat (first | exact B7 | refine Below.setCell ?_ (by first | omega | (simp; done) | (simp; omega)) _ | refine Below.alloc ?_ (by first | omega | (simp; done) | (simp; omega)) _ | refine Below.drew ?_)

theorem lawOrder_any (a b c : ByteArray) (w : World) (hg : GM w) (ha : a.size ≤ maxLen) (hb : b.size ≤ maxLen) (hc : c.size ≤ maxLen) :
    Calls Tryd.prog 7 #[.string a, .string b, .string c] w fun e w' => e = .returned (.bool true) ∧ Below w.heap.size w w' := by
  by_cases h1 : (splitF a).1 = 0
  · by_cases h2 : (splitF b).1 = 0
    · by_cases h3 : (splitF c).1 = 0
      · exact lawOrder_ok a b c w hg ha hb hc h1 h2 h3
      · exact lawOrder_badC a b c w hg ha hb hc h1 h2 h3
    · exact lawOrder_bad a b c w hg ha hb hc (fun h => h2 h.2)
  · exact lawOrder_bad a b c w hg ha hb hc (fun h => h1 h.1)

end Go.Proofs.YtmjpcpnjppmnkaaDoor
