/- The law HardlinkSameFileMatchesSpec returns true at every tree and any two strings. Conditions: the library's variable that bounds a search holds an int; the strings are of a string's sizes; the tree's cells lie in memory as they read. -/
import Derived.Test.YteomlacohddecaaDoorHlSame
import Derived.Test.YteomlacohddecaaDoorFsSample

set_option linter.all false
namespace Go.Proofs.YteomlacohddecaaDoor
open Go.RowKit

def slA : ByteArray := ⟨#[47, 97]⟩
theorem same_sample : sameF sampleT slA slA = (true, 0, 0) := by decide +kernel

set_option maxRecDepth 100000 in
set_option maxHeartbeats 3200000 in
theorem lawSame_any (a : Option Addr) (c : Nat) (t : Tr) (x y : ByteArray) (w : World) (gm : GM w) (hx : x.size ≤ maxLen) (hy : y.size ≤ maxLen) (h : Nods w w.heap.size a c t) :
    Calls Tryd.prog 3 #[.agg #[.slice a t.length c], .string x, .string y] w fun e w' => e = .returned (.bool true) ∧ Below w.heap.size w w' := by
  have C0 := Lib.hid (fun W (hb : Below w.heap.size w W) => same_any a c t x y W (gm.below hb) hx hy (h.up hb))
  have C1 := Lib.hid (fun W (hb : Below w.heap.size w W) => lookup_any a c t x W (gm.below hb) hx (h.up hb))
  have C2 := Lib.hid (fun W (hb : Below w.heap.size w W) => lookup_any a c t y W (gm.below hb) hy (h.up hb))
  have CS := Lib.hid (fun W b (hb : Below w.heap.size w W) (hn : Nods W W.heap.size (some ⟨b, 0, none⟩) 3 sampleT) => same_any (some ⟨b, 0, none⟩) 3 sampleT slA slA W (gm.below hb) (by decide) (by decide) hn)
  rw [same_sample] at CS
  have T0 := Lib.hid (One.new w (.slice a t.length c) 24)
  have B0 := Lib.hid ((Below.refl w.heap.size w).alloc (Nat.le_refl _) (.cells #[.slice a t.length c] 24))
  have hz1 := lookF_zero (t := t) (p := x)
  have hz2 := lookF_zero (t := t) (p := y)
  unfold sameF at C0
  unfold faultV at C0 C1 C2 CS
  unfold slA at CS
  clear gm h
  generalize (lookF t x).1 = n1 at *
  generalize (lookF t x).2.1 = q1 at *
  generalize (lookF t x).2.2 = r1 at *
  generalize (lookF t y).1 = n2 at *
  generalize (lookF t y).2.1 = q2 at *
  generalize (lookF t y).2.2 = r2 at *
  by_cases hq : q1 = 0
  · subst hq
    obtain rfl := hz1 rfl
    rw [if_neg (by simp)] at C0
    by_cases hq2 : q2 = 0
    · subst hq2
      obtain rfl := hz2 rfl
      rw [if_neg (by simp)] at C0
      clear hz1 hz2
      simp only at C0
      generalize hb : decide (n1 = n2) = bb at *
      have hbz : ((n1 : Int) == (n2 : Int)) = bb := by
        rw [← hb]
        by_cases e : n1 = n2
        · subst e; simp
        · rw [decide_eq_false e, beq_eq_false_iff_ne]; omega
      clear hb
      go_enter Tryd.func3, Tryd.ntmps3
      go_wp2_with fail
      refine (C0.out _ B0.out).mono ?_
      rintro e W1 ⟨rfl, b1⟩
      have T1 := Lib.hid ((T0.out.below b1 T0.out.lt).alloc (.cells #[.int .i64 0, .int .i64 0] 26))
      have F1 := Lib.hid (FBox.new W1 0 0 26)
      have B1 := Lib.hid ((B0.out.trans (b1.mono B0.out.size)).alloc (Nat.le_trans B0.out.size b1.size) (.cells #[.int .i64 0, .int .i64 0] 26))
      have tc := T1.out.c0
      have tl := T1.out.lt
      clear b1
      go_wp2_with fail
      refine (C1.out _ B1.out).mono ?_
      rintro e W2 ⟨rfl, b2⟩
      have hl1 : W1.heap.size < W2.heap.size := (F1.out.below b2 F1.out.lt).lt
      have hs2 : w.heap.size ≤ W2.heap.size := Nat.le_trans B1.out.size b2.size
      have T2 := Lib.hid ((T1.out.below b2 T1.out.lt).alloc (.cells #[.int .i64 0, .int .i64 0] 26))
      have F2 := Lib.hid ((F1.out.below b2 F1.out.lt).alloc (.cells #[.int .i64 0, .int .i64 0] 26))
      have X2 := Lib.hid (FBox.new W2 0 0 26)
      have B2 := Lib.hid ((B1.out.trans (b2.mono B1.out.size)).alloc (Nat.le_trans B1.out.size b2.size) (.cells #[.int .i64 0, .int .i64 0] 26))
      clear b2 tc tl T0 T1 F1 B0 B1
      have tc := T2.out.c0
      have tl := T2.out.lt
      obtain ⟨xl, x0, x1, xz0, xz1⟩ := X2.out
      go_wp2_with fail
      refine (C2.out _ B2.out).mono ?_
      rintro e W3 ⟨rfl, b3⟩
      obtain ⟨l8, x0, x1, z0, z1⟩ := X2.out.below b3 X2.out.lt
      have X3 := Lib.hid ((X2.out.below b3 X2.out.lt).put 0 0)
      have F3 := Lib.hid (((F2.out.below b3 F2.out.lt).far (p := ⟨W2.heap.size, 0, none⟩) (by simp; omega) (.int .i64 0)).far (p := ⟨W2.heap.size, 1, none⟩) (by simp; omega) (.int .i64 0))
      have B3 := Lib.hid (((B2.out.trans (b3.mono B2.out.size)).setCell (p := ⟨W2.heap.size, 0, none⟩) (by simp; omega) (.int .i64 0)).setCell (p := ⟨W2.heap.size, 1, none⟩) (by simp; omega) (.int .i64 0))
      clear b3 tc tl T2 F2 X2 B2 C2
      go_wp2_with fail
      refine (sample_any _).mono ?_
      rintro e W4 ⟨sb, rfl, hn4, b4⟩
      have B4 := Lib.hid (B3.out.trans (b4.mono B3.out.size))
      have X4 := Lib.hid (X3.out.below b4 X3.out.lt)
      have F4 := Lib.hid (F3.out.below b4 F3.out.lt)
      have HE := Lib.hid (CS.out _ sb B4.out hn4)
      clear b4 hn4 X3 F3 B3 CS C0 C1
      go_wp2_with fail
      refine HE.out.mono ?_
      rintro e W5 ⟨rfl, b5⟩
      have B5 := Lib.hid ((B4.out.trans (b5.mono B4.out.size)).alloc (Nat.le_trans B4.out.size b5.size) (.cells #[.int .i64 0, .int .i64 0] 26))
      have X5 := Lib.hid (X4.out.below b5 X4.out.lt)
      have F5 := Lib.hid (F4.out.below b5 F4.out.lt)
      clear b5 HE X4 F4 B4
      obtain ⟨xl, x0, x1, xz0, xz1⟩ := X5.out
      obtain ⟨fl, f0, f1, fz0, fz1⟩ := F5.out
      go_wp2
      go_ret
      exact ⟨rfl, B5.out⟩
    · have hq1 : (q2 != 0) = true := by simpa using hq2
      have hq1b : (q2 == 0) = false := by simpa using hq2
      rw [if_pos hq2] at C0
      clear hz1 hz2 hq2
      simp only at C0
      go_enter Tryd.func3, Tryd.ntmps3
      go_wp2_with fail
      refine (C0.out _ B0.out).mono ?_
      rintro e W1 ⟨rfl, b1⟩
      have T1 := Lib.hid ((T0.out.below b1 T0.out.lt).alloc (.cells #[.int .i64 q2, .int .i64 r2] 26))
      have F1 := Lib.hid (FBox.new W1 q2 r2 26)
      have B1 := Lib.hid ((B0.out.trans (b1.mono B0.out.size)).alloc (Nat.le_trans B0.out.size b1.size) (.cells #[.int .i64 q2, .int .i64 r2] 26))
      have tc := T1.out.c0
      have tl := T1.out.lt
      clear b1
      go_wp2_with fail
      refine (C1.out _ B1.out).mono ?_
      rintro e W2 ⟨rfl, b2⟩
      have hl1 : W1.heap.size < W2.heap.size := (F1.out.below b2 F1.out.lt).lt
      have hs2 : w.heap.size ≤ W2.heap.size := Nat.le_trans B1.out.size b2.size
      have T2 := Lib.hid ((T1.out.below b2 T1.out.lt).alloc (.cells #[.int .i64 0, .int .i64 0] 26))
      have F2 := Lib.hid ((F1.out.below b2 F1.out.lt).alloc (.cells #[.int .i64 0, .int .i64 0] 26))
      have X2 := Lib.hid (FBox.new W2 0 0 26)
      have B2 := Lib.hid ((B1.out.trans (b2.mono B1.out.size)).alloc (Nat.le_trans B1.out.size b2.size) (.cells #[.int .i64 0, .int .i64 0] 26))
      clear b2 tc tl T0 T1 F1 B0 B1
      have tc := T2.out.c0
      have tl := T2.out.lt
      obtain ⟨xl, x0, x1, xz0, xz1⟩ := X2.out
      go_wp2_with fail
      refine (C2.out _ B2.out).mono ?_
      rintro e W3 ⟨rfl, b3⟩
      obtain ⟨l8, x0, x1, z0, z1⟩ := X2.out.below b3 X2.out.lt
      have X3 := Lib.hid ((X2.out.below b3 X2.out.lt).put q2 r2)
      have F3 := Lib.hid (((F2.out.below b3 F2.out.lt).far (p := ⟨W2.heap.size, 0, none⟩) (by simp; omega) (.int .i64 q2)).far (p := ⟨W2.heap.size, 1, none⟩) (by simp; omega) (.int .i64 r2))
      have B3 := Lib.hid (((B2.out.trans (b3.mono B2.out.size)).setCell (p := ⟨W2.heap.size, 0, none⟩) (by simp; omega) (.int .i64 q2)).setCell (p := ⟨W2.heap.size, 1, none⟩) (by simp; omega) (.int .i64 r2))
      clear b3 tc tl T2 F2 X2 B2 C2
      go_wp2_with fail
      refine (sample_any _).mono ?_
      rintro e W4 ⟨sb, rfl, hn4, b4⟩
      have B4 := Lib.hid (B3.out.trans (b4.mono B3.out.size))
      have X4 := Lib.hid (X3.out.below b4 X3.out.lt)
      have F4 := Lib.hid (F3.out.below b4 F3.out.lt)
      have HE := Lib.hid (CS.out _ sb B4.out hn4)
      clear b4 hn4 X3 F3 B3 CS C0 C1
      go_wp2_with fail
      refine HE.out.mono ?_
      rintro e W5 ⟨rfl, b5⟩
      have B5 := Lib.hid ((B4.out.trans (b5.mono B4.out.size)).alloc (Nat.le_trans B4.out.size b5.size) (.cells #[.int .i64 0, .int .i64 0] 26))
      have X5 := Lib.hid (X4.out.below b5 X4.out.lt)
      have F5 := Lib.hid (F4.out.below b5 F4.out.lt)
      clear b5 HE X4 F4 B4
      obtain ⟨xl, x0, x1, xz0, xz1⟩ := X5.out
      obtain ⟨fl, f0, f1, fz0, fz1⟩ := F5.out
      go_wp2
      go_ret
      exact ⟨rfl, B5.out⟩
  · have hq1 : (q1 != 0) = true := by simpa using hq
    have hq1b : (q1 == 0) = false := by simpa using hq
    rw [if_pos hq] at C0
    clear hz1 hz2 hq
    simp only at C0
    go_enter Tryd.func3, Tryd.ntmps3
    go_wp2_with fail
    refine (C0.out _ B0.out).mono ?_
    rintro e W1 ⟨rfl, b1⟩
    have T1 := Lib.hid ((T0.out.below b1 T0.out.lt).alloc (.cells #[.int .i64 q1, .int .i64 r1] 26))
    have F1 := Lib.hid (FBox.new W1 q1 r1 26)
    have B1 := Lib.hid ((B0.out.trans (b1.mono B0.out.size)).alloc (Nat.le_trans B0.out.size b1.size) (.cells #[.int .i64 q1, .int .i64 r1] 26))
    have tc := T1.out.c0
    have tl := T1.out.lt
    clear b1
    go_wp2_with fail
    refine (C1.out _ B1.out).mono ?_
    rintro e W2 ⟨rfl, b2⟩
    have hl1 : W1.heap.size < W2.heap.size := (F1.out.below b2 F1.out.lt).lt
    have hs2 : w.heap.size ≤ W2.heap.size := Nat.le_trans B1.out.size b2.size
    have T2 := Lib.hid ((T1.out.below b2 T1.out.lt).alloc (.cells #[.int .i64 q1, .int .i64 r1] 26))
    have F2 := Lib.hid ((F1.out.below b2 F1.out.lt).alloc (.cells #[.int .i64 q1, .int .i64 r1] 26))
    have X2 := Lib.hid (FBox.new W2 q1 r1 26)
    have B2 := Lib.hid ((B1.out.trans (b2.mono B1.out.size)).alloc (Nat.le_trans B1.out.size b2.size) (.cells #[.int .i64 q1, .int .i64 r1] 26))
    clear b2 tc tl T0 T1 F1 B0 B1
    have X3 := X2
    have F3 := F2
    have B3 := B2
    obtain ⟨xl, x0, x1, xz0, xz1⟩ := X2.out
    clear T2 F2 X2 B2 C2
    go_wp2_with fail
    refine (sample_any _).mono ?_
    rintro e W4 ⟨sb, rfl, hn4, b4⟩
    have B4 := Lib.hid (B3.out.trans (b4.mono B3.out.size))
    have X4 := Lib.hid (X3.out.below b4 X3.out.lt)
    have F4 := Lib.hid (F3.out.below b4 F3.out.lt)
    have HE := Lib.hid (CS.out _ sb B4.out hn4)
    clear b4 hn4 X3 F3 B3 CS C0 C1
    go_wp2_with fail
    refine HE.out.mono ?_
    rintro e W5 ⟨rfl, b5⟩
    have B5 := Lib.hid ((B4.out.trans (b5.mono B4.out.size)).alloc (Nat.le_trans B4.out.size b5.size) (.cells #[.int .i64 0, .int .i64 0] 26))
    have X5 := Lib.hid (X4.out.below b5 X4.out.lt)
    have F5 := Lib.hid (F4.out.below b5 F4.out.lt)
    clear b5 HE X4 F4 B4
    obtain ⟨xl, x0, x1, xz0, xz1⟩ := X5.out
    obtain ⟨fl, f0, f1, fz0, fz1⟩ := F5.out
    go_wp2
    go_ret
    exact ⟨rfl, B5.out⟩

end Go.Proofs.YteomlacohddecaaDoor
