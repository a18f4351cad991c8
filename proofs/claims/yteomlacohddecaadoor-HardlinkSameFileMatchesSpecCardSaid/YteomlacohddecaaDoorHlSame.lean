/- hardlink.SameFile at every tree and any two strings. Conditions: the library's variable that bounds a search holds an int; the strings are of a string's sizes; the tree's cells lie in memory as they read. -/
import Derived.Test.YteomlacohddecaaDoorFsLook

set_option linter.all false
namespace Go.Proofs.YteomlacohddecaaDoor
open Go.RowKit

theorem resT_zero (t : Tr) : ∀ (xs : List ByteArray) (n i : Nat), (resT t xs n i).2.1 = 0 → (resT t xs n i).2.2 = 0
  | [], n, i => fun _ => rfl
  | x :: r, n, i => by
    unfold resT
    split
    · intro h; exact absurd (show (8 : Int) = 0 from h) (by decide)
    · split
      · exact resT_zero t r _ _
      · intro h; exact absurd (show (6 : Int) = 0 from h) (by decide)
theorem lookF_zero {t : Tr} {p : ByteArray} (h : (lookF t p).2.1 = 0) : (lookF t p).2.2 = 0 := by
  by_cases hq : (valT t).1 = 0
  · by_cases hs : (splitF p).1 = 0
    · rw [lookF_res hq hs] at h ⊢
      have := resT_zero t (splitL p) 0 0 h
      simp only [this]; rfl
    · rw [lookF_split hq hs] at h; exact absurd h hs
  · rw [lookF_bad hq] at h; exact absurd h hq
/-- Whether two paths lead to one inode, and the fault. -/
def sameF (t : Tr) (x y : ByteArray) : Bool × Int × Int :=
  if (lookF t x).2.1 ≠ 0 then (false, (lookF t x).2.1, (lookF t x).2.2) else if (lookF t y).2.1 ≠ 0 then (false, (lookF t y).2.1, (lookF t y).2.2) else (decide ((lookF t x).1 = (lookF t y).1), 0, 0)

set_option maxRecDepth 100000 in
set_option maxHeartbeats 3200000 in
theorem same_any (a : Option Addr) (c : Nat) (t : Tr) (x y : ByteArray) (w : World) (gm : GM w) (hx : x.size ≤ maxLen) (hy : y.size ≤ maxLen) (h : Nods w w.heap.size a c t) :
    Calls Tryd.prog 4 #[.agg #[.slice a t.length c], .string x, .string y] w fun e w' => e = .returned (.tuple #[.bool (sameF t x y).1, faultV (sameF t x y).2.1 (sameF t x y).2.2]) ∧ Below w.heap.size w w' := by
  have C1 := Lib.hid (fun W (hb : Below w.heap.size w W) => lookup_any a c t x W (gm.below hb) hx (h.up hb))
  have C2 := Lib.hid (fun W (hb : Below w.heap.size w W) => lookup_any a c t y W (gm.below hb) hy (h.up hb))
  have T0 := Lib.hid (show One ((w.alloc (.cells #[.slice a t.length c] 24)).alloc (.cells #[.int .i64 0, .int .i64 0] 26)) w.heap.size (.slice a t.length c) from (One.new w _ _).alloc _)
  have F0 := Lib.hid (show FBox ((w.alloc (.cells #[.slice a t.length c] 24)).alloc (.cells #[.int .i64 0, .int .i64 0] 26)) (w.heap.size + 1) 0 0 from (FBox.new (w.alloc _) 0 0 _).at_ (by simp))
  have B0 := Lib.hid (show Below w.heap.size w ((w.alloc (.cells #[.slice a t.length c] 24)).alloc (.cells #[.int .i64 0, .int .i64 0] 26)) from ((Below.refl _ _).alloc (Nat.le_refl _) _).alloc (by first | omega | (simp; done) | (simp; omega)) _)
  unfold faultV at C1 C2
  unfold sameF
  clear gm h
  generalize (lookF t x).1 = n1 at *
  generalize (lookF t x).2.1 = q1 at *
  generalize (lookF t x).2.2 = r1 at *
  generalize (lookF t y).1 = n2 at *
  generalize (lookF t y).2.1 = q2 at *
  generalize (lookF t y).2.2 = r2 at *
  by_cases hq : q1 = 0
  · subst hq
    rw [if_neg (by simp)]
    by_cases hq2 : q2 = 0
    · subst hq2
      rw [if_neg (by simp)]
      generalize hb : decide (n1 = n2) = bb
      have hbz : ((n1 : Int) == (n2 : Int)) = bb := by
        rw [← hb]
        by_cases e : n1 = n2
        · subst e; simp
        · rw [decide_eq_false e, beq_eq_false_iff_ne]; omega
      clear hb
      go_enter Tryd.func4, Tryd.ntmps4
      go_wp2_with fail
      refine (C1.out _ B0.out).mono ?_
      rintro e W1 ⟨rfl, b1⟩
      have T1 := Lib.hid ((T0.out.below b1 T0.out.lt).alloc (.cells #[.int .i64 0, .int .i64 r1] 26))
      have F1 := Lib.hid ((F0.out.below b1 F0.out.lt).alloc (.cells #[.int .i64 0, .int .i64 r1] 26))
      have X1 := Lib.hid (FBox.new W1 0 r1 26)
      have B1 := Lib.hid ((B0.out.trans (b1.mono B0.out.size)).alloc (Nat.le_trans B0.out.size b1.size) (.cells #[.int .i64 0, .int .i64 r1] 26))
      have hF1 : w.heap.size + 1 < W1.heap.size := (F0.out.below b1 F0.out.lt).lt
      have tc := T1.out.c0
      have tl := T1.out.lt
      clear b1
      go_wp2_with fail
      refine (C2.out _ B1.out).mono ?_
      rintro e W2 ⟨rfl, b2⟩
      obtain ⟨l8, x0, x1, z0, z1⟩ := X1.out.below b2 X1.out.lt
      have X2 := Lib.hid ((X1.out.below b2 X1.out.lt).put 0 r2)
      have F2 := Lib.hid (((F1.out.below b2 F1.out.lt).far (p := ⟨W1.heap.size, 0, none⟩) (by simp; omega) (.int .i64 0)).far (p := ⟨W1.heap.size, 1, none⟩) (by simp; omega) (.int .i64 r2))
      have B2 := Lib.hid (((B1.out.trans (b2.mono B1.out.size)).setCell (p := ⟨W1.heap.size, 0, none⟩) (by simp; omega) (.int .i64 0)).setCell (p := ⟨W1.heap.size, 1, none⟩) (by simp; omega) (.int .i64 r2))
      clear b2 C1 C2 T0 F0 B0 F1 X1 B1 T1 tc tl
      obtain ⟨l9, a0, a1, f0, f1⟩ := F2.out
      have y0 := X2.out.c0
      have hne2 : ¬ w.heap.size + 1 = W1.heap.size := by omega
      go_wp2
      exact bodyPost_ret (v := .tuple #[.bool bb, faultV 0 0]) (by simp [results, Tryd.results4, faultV, go_sem, a0, a1, l9, hbz]) rfl ⟨rfl, by repeat (first | exact B2.out | refine Below.setCell ?_ (by first | omega | (simp; done) | (simp; omega)) _ | refine Below.alloc ?_ (by first | omega | (simp; done) | (simp; omega)) _ | refine Below.drew ?_)⟩
    · have hq1 : (q2 != 0) = true := by simpa using hq2
      rw [if_pos hq2]
      clear hq2
      go_enter Tryd.func4, Tryd.ntmps4
      go_wp2_with fail
      refine (C1.out _ B0.out).mono ?_
      rintro e W1 ⟨rfl, b1⟩
      have T1 := Lib.hid ((T0.out.below b1 T0.out.lt).alloc (.cells #[.int .i64 0, .int .i64 r1] 26))
      have F1 := Lib.hid ((F0.out.below b1 F0.out.lt).alloc (.cells #[.int .i64 0, .int .i64 r1] 26))
      have X1 := Lib.hid (FBox.new W1 0 r1 26)
      have B1 := Lib.hid ((B0.out.trans (b1.mono B0.out.size)).alloc (Nat.le_trans B0.out.size b1.size) (.cells #[.int .i64 0, .int .i64 r1] 26))
      have hF1 : w.heap.size + 1 < W1.heap.size := (F0.out.below b1 F0.out.lt).lt
      have tc := T1.out.c0
      have tl := T1.out.lt
      clear b1
      go_wp2_with fail
      refine (C2.out _ B1.out).mono ?_
      rintro e W2 ⟨rfl, b2⟩
      obtain ⟨l8, x0, x1, z0, z1⟩ := X1.out.below b2 X1.out.lt
      have X2 := Lib.hid ((X1.out.below b2 X1.out.lt).put q2 r2)
      have F2 := Lib.hid (((F1.out.below b2 F1.out.lt).far (p := ⟨W1.heap.size, 0, none⟩) (by simp; omega) (.int .i64 q2)).far (p := ⟨W1.heap.size, 1, none⟩) (by simp; omega) (.int .i64 r2))
      have B2 := Lib.hid (((B1.out.trans (b2.mono B1.out.size)).setCell (p := ⟨W1.heap.size, 0, none⟩) (by simp; omega) (.int .i64 q2)).setCell (p := ⟨W1.heap.size, 1, none⟩) (by simp; omega) (.int .i64 r2))
      clear b2 C1 C2 T0 F0 B0 F1 X1 B1 T1 tc tl
      obtain ⟨l9, a0, a1, f0, f1⟩ := F2.out
      have y0 := X2.out.c0
      have y1 := X2.out.c1
      have hne2 : ¬ w.heap.size + 1 = W1.heap.size := by omega
      go_wp2
      go_region
      go_wp2
      exact bodyPost_ret (v := .tuple #[.bool false, faultV q2 r2]) (by simp [results, Tryd.results4, faultV, go_sem, a0, a1, l9]) rfl ⟨rfl, by repeat (first | exact B2.out | refine Below.setCell ?_ (by first | omega | (simp; done) | (simp; omega)) _ | refine Below.alloc ?_ (by first | omega | (simp; done) | (simp; omega)) _ | refine Below.drew ?_)⟩
  · have hq1 : (q1 != 0) = true := by simpa using hq
    rw [if_pos hq]
    clear hq
    go_enter Tryd.func4, Tryd.ntmps4
    go_wp2_with fail
    refine (C1.out _ B0.out).mono ?_
    rintro e W1 ⟨rfl, b1⟩
    have F1 := Lib.hid (F0.out.below b1 F0.out.lt)
    have B1 := Lib.hid (B0.out.trans (b1.mono B0.out.size))
    obtain ⟨l9, a0, a1, f0, f1⟩ := F1.out
    have hs1 := B1.out.size
    clear b1 C1 C2 T0 F0 B0
    go_wp2
    go_region
    go_wp2
    exact bodyPost_ret (v := .tuple #[.bool false, faultV q1 r1]) (by simp [results, Tryd.results4, faultV, go_sem, a0, a1, l9]) rfl ⟨rfl, by repeat (first | exact B1.out | refine Below.setCell ?_ (by first | omega | (simp; done) | (simp; omega)) _ | refine Below.alloc ?_ (by first | omega | (simp; done) | (simp; omega)) _ | refine Below.drew ?_)⟩

end Go.Proofs.YteomlacohddecaaDoor
