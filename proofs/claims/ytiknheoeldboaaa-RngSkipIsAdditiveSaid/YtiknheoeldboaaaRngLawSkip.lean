/- The law RngSkipIsAdditive returns true at every seed and every two numbers of steps. No condition. -/
import Derived.Test.YtiknheoeldboaaaRngSkip
import Derived.Deep.RegionHeld3
import Derived.BigQuiet
import Derived.WalkSmall
import Derived.Deep.QuietTactic

set_option linter.all false
namespace Go.Proofs.Ytiknheoeldboaaa
open Go.RowKit

theorem skV_zero {s : Int} (h : sd s = true) : skV s 0 = s ∧ rfC s 0 0 = 0 := by
  have e : rfC s 0 0 = 0 := by unfold rfC; rw [if_pos h, if_neg (by omega)]
  exact ⟨by unfold skV; rw [if_pos e]; rfl, e⟩
theorem skV_one {s : Int} (h : sd s = true) : skV s 1 = nx s ∧ rfC s 1 0 = 0 := by
  have e : rfC s 1 0 = 0 := by unfold rfC; rw [if_pos h, if_neg (by omega)]
  exact ⟨by unfold skV; rw [if_pos e]; rfl, e⟩

set_option maxHeartbeats 3200000 in
theorem lawSkipA_any (s a b : Int) (w : World) (h : rfC s a 0 = 3) :
    Calls Try.prog 6 #[.int .i64 s, .int .i64 a, .int .i64 b] w fun e w' => e = .returned (.bool true) ∧ Below w.heap.size w w' := by
  have C1 := Lib.hid (fun W => skip_any s a W)
  have C2 := Lib.hid (fun W => rngExample_any W)
  have C3 := Lib.hid (fun W => validSeed_any s a 0 W)
  unfold NX at C1
  unfold CK at C3
  have e1 : skV s a = 0 := by unfold skV; rw [if_neg (by rw [h]; decide)]
  rw [h, e1] at C1; rw [h] at C3
  clear h e1
  generalize rfI s a 0 = i at *
  go_enter Try.func6, Try.ntmps6
  go_wp2_with fail
  refine (C1.out _).mono ?_
  rintro e W1 ⟨rfl, b1⟩
  have F1 := FBox.new W1 3 i 23
  have B1 := b1.alloc b1.size (.cells #[.int .i64 3, .int .i64 i] 23)
  clear b1
  go_wp2_with fail
  refine (C2.out _).mono ?_
  rintro e W2 ⟨rfl, b2⟩
  have hz := b2.size
  have F2 := F1.below b2 F1.lt
  have B2 := B1.trans (b2.mono B1.size)
  have hR1 := F1.lt
  clear b2 F1 B1 C1 C2
  have hl := F2.lt
  have a0 := F2.c0
  have a1 := F2.c1
  have K := Lib.hid (fun y (hy : Below W2.heap.size W2 y) => (show Below W2.heap.size W2 y ∧ y.cell? ⟨W1.heap.size, 0, none⟩ = some (.int .i64 3) ∧ y.cell? ⟨W1.heap.size, 1, none⟩ = some (.int .i64 i) from
    ⟨hy, (F2.below hy F2.lt).c0, (F2.below hy F2.lt).c1⟩))
  go_wp2_with fail
  go_region_held3 (fun y => Below W2.heap.size W2 y ∧ y.cell? ⟨W1.heap.size, 0, none⟩ = some (.int .i64 3) ∧ y.cell? ⟨W1.heap.size, 1, none⟩ = some (.int .i64 i))
    (first | exact K.out _ hR | exact K.out _ (Below.refl _ _).drew | fail)
    ((go_at_call 10; have hs0 := And.left ‹Below W2.heap.size W2 _ ∧ _›; refine (C3.out _).mono ?_; rintro e y ⟨rfl, hb9⟩; have hR := hs0.trans (hb9.mono hs0.size)))
  all_goals
    have hz := And.left ‹Below W2.heap.size W2 _ ∧ _›
    go_wp2
    go_ret
    exact ⟨rfl, B2.trans (hz.mono B2.size)⟩

set_option maxHeartbeats 3200000 in
theorem lawSkipB_any (s a b : Int) (w : World) (h : rfC s a 0 = 0) (hb : rfC (sk a.toNat s) b 0 = 3) :
    Calls Try.prog 6 #[.int .i64 s, .int .i64 a, .int .i64 b] w fun e w' => e = .returned (.bool true) ∧ Below w.heap.size w w' := by
  have C1 := Lib.hid (fun W => skip_any s a W)
  have C2 := Lib.hid (fun W => rngExample_any W)
  have C3 := Lib.hid (fun W => validSeed_any s a 0 W)
  have e1 : skV s a = sk a.toNat s := by unfold skV; rw [if_pos h]
  obtain ⟨hs0, hs1, _, _⟩ := rfC_zero h
  have hy := sk_sd (sd_iff.2 ⟨hs0, hs1⟩) a.toNat
  have ei : rfI (sk a.toNat s) b 0 = 0 := by unfold rfI; rw [if_pos hy]
  have C4 := Lib.hid (fun W => skip_any (sk a.toNat s) b W)
  have C5 := Lib.hid (fun W => validSeed_any (sk a.toNat s) b 0 W)
  have e2 : skV (sk a.toNat s) b = 0 := by unfold skV; rw [if_neg (by rw [hb]; decide)]
  unfold NX at C1 C4
  unfold CK at C3 C5
  rw [h, rfI_zero h, e1] at C1; rw [h, rfI_zero h] at C3; rw [hb, e2, ei] at C4; rw [hb, ei] at C5
  clear h e1 e2 hb ei hy
  generalize sk a.toNat s = x at *
  go_enter Try.func6, Try.ntmps6
  go_wp2_with fail
  refine (C1.out _).mono ?_
  rintro e W1 ⟨rfl, b1⟩
  have F1 := FBox.new W1 0 0 23
  have B1 := b1.alloc b1.size (.cells #[.int .i64 0, .int .i64 0] 23)
  clear b1
  go_wp2_with fail
  refine (C2.out _).mono ?_
  rintro e W2 ⟨rfl, b2⟩
  have hz := b2.size
  have F2 := F1.below b2 F1.lt
  have B2 := B1.trans (b2.mono B1.size)
  have hR1 := F1.lt
  clear b2 F1 B1 C1 C2
  have hl := F2.lt
  have a0 := F2.c0
  have a1 := F2.c1
  have K := Lib.hid (fun y (hy : Below W2.heap.size W2 y) => (show Below W2.heap.size W2 y ∧ y.cell? ⟨W1.heap.size, 0, none⟩ = some (.int .i64 0) ∧ y.cell? ⟨W1.heap.size, 1, none⟩ = some (.int .i64 0) from
    ⟨hy, (F2.below hy F2.lt).c0, (F2.below hy F2.lt).c1⟩))
  go_wp2_with fail
  go_region_held3 (fun y => Below W2.heap.size W2 y ∧ y.cell? ⟨W1.heap.size, 0, none⟩ = some (.int .i64 0) ∧ y.cell? ⟨W1.heap.size, 1, none⟩ = some (.int .i64 0))
    (first | exact K.out _ hR | exact K.out _ (Below.refl _ _).drew | fail)
    ((go_at_call 10; have hs0 := And.left ‹Below W2.heap.size W2 _ ∧ _›; refine (C3.out _).mono ?_; rintro e y ⟨rfl, hb9⟩; have hR := hs0.trans (hb9.mono hs0.size)))
  all_goals
    obtain ⟨hz1, a0, a1⟩ := ‹Below W2.heap.size W2 _ ∧ _›
    have F3 := F2.below hz1 F2.lt
    have hl3 := F3.lt
    have B3 := B2.trans (hz1.mono B2.size)
    clear F2 B2 K hz1
    go_wp2_with fail
    clear a0 a1 hl3
    refine (C4.out _).mono ?_
    rintro e W4 ⟨rfl, b4⟩
    have F4 := FBox.new W4 3 0 23
    have B4 := (B3.trans (b4.mono B3.size)).alloc (Nat.le_trans B3.size b4.size) (.cells #[.int .i64 3, .int .i64 0] 23)
    clear b4 F3 B3 C4
    have hl := F4.lt
    have a0 := F4.c0
    have a1 := F4.c1
    have K := Lib.hid (fun y (hy : Below (W4.heap.size + 1) (W4.alloc (.cells #[.int .i64 3, .int .i64 0] 23)) y) => (show Below (W4.heap.size + 1) (W4.alloc (.cells #[.int .i64 3, .int .i64 0] 23)) y ∧ y.cell? ⟨W4.heap.size, 0, none⟩ = some (.int .i64 3) ∧ y.cell? ⟨W4.heap.size, 1, none⟩ = some (.int .i64 0) from
      ⟨hy, (F4.below hy (by omega)).c0, (F4.below hy (by omega)).c1⟩))
    go_wp2_with fail
    go_region_held3 (fun y => Below (W4.heap.size + 1) (W4.alloc (.cells #[.int .i64 3, .int .i64 0] 23)) y ∧ y.cell? ⟨W4.heap.size, 0, none⟩ = some (.int .i64 3) ∧ y.cell? ⟨W4.heap.size, 1, none⟩ = some (.int .i64 0))
      (first | exact K.out _ hR | exact K.out _ (Below.refl _ _).drew | fail)
      ((go_at_call 10; have hs0 := And.left ‹Below (W4.heap.size + 1) _ _ ∧ _›; refine (C5.out _).mono ?_; rintro e y ⟨rfl, hb9⟩; have hR := hs0.trans (hb9.mono (by first | (simp; done) | (have := hs0.size; simp at this ⊢; omega)))))
    all_goals
      obtain ⟨hz1, a0, a1⟩ := ‹Below (W4.heap.size + 1) _ _ ∧ _›
      have hl5 := (F4.below hz1 (by omega)).lt
      have B5 := B4.trans (hz1.mono (by have := B4.size; simp at this; omega))
      clear F4 B4 K hz1
      go_wp2
      go_ret
      exact ⟨rfl, B5⟩

set_option maxHeartbeats 3200000 in
theorem lawSkipC_any (s a b : Int) (w : World) (h : rfC s a 0 = 0) (hb : rfC (sk a.toNat s) b 0 = 0) (hab : a + b ≤ 1000000) :
    Calls Try.prog 6 #[.int .i64 s, .int .i64 a, .int .i64 b] w fun e w' => e = .returned (.bool true) ∧ Below w.heap.size w w' := by
  have C1 := Lib.hid (fun W => skip_any s a W)
  have C2 := Lib.hid (fun W => rngExample_any W)
  have C3 := Lib.hid (fun W => validSeed_any s a 0 W)
  have e1 : skV s a = sk a.toNat s := by unfold skV; rw [if_pos h]
  obtain ⟨sl0, sl1, ha0, ha1⟩ := rfC_zero h
  obtain ⟨_, _, hb0, hb1⟩ := rfC_zero hb
  have hs := sd_iff.2 ⟨sl0, sl1⟩
  have C4 := Lib.hid (fun W => skip_any (sk a.toNat s) b W)
  have C5 := Lib.hid (fun W => validSeed_any (sk a.toNat s) b 0 W)
  have C6 := Lib.hid (fun W => skip_any s 0 W)
  have C7 := Lib.hid (fun W => skip_any s 1 W)
  have C8 := Lib.hid (fun W => skip_any s (a + b) W)
  have C9 := Lib.hid (fun W => nextSeed_any s W sl0 sl1)
  have e2 : skV (sk a.toNat s) b = sk b.toNat (sk a.toNat s) := by unfold skV; rw [if_pos hb]
  have e3 : sk b.toNat (sk a.toNat s) = sk (a + b).toNat s := by rw [← sk_add]; congr 1; omega
  have e4 : rfC s (a + b) 0 = 0 := by unfold rfC; rw [if_pos hs]; rw [if_neg (by omega)]
  have e5 : rfI s (a + b) 0 = 0 := by unfold rfI; rw [if_pos hs]
  unfold NX at C1 C4 C6 C7 C8
  unfold CK at C3 C5
  rw [h, rfI_zero h, e1] at C1; rw [h, rfI_zero h] at C3; rw [hb, e2, rfI_zero hb, e3] at C4; rw [hb, rfI_zero hb] at C5
  rw [(skV_zero hs).1, (skV_zero hs).2, rfI_zero (skV_zero hs).2] at C6
  rw [(skV_one hs).1, (skV_one hs).2, rfI_zero (skV_one hs).2] at C7
  have e8 : skV s (a + b) = sk (a + b).toNat s := by unfold skV; rw [if_pos e4]
  rw [e4, e5, e8] at C8
  clear h e1 e2 hb e3 e4 e5 e8 hs
  generalize sk (a + b).toNat s = z at *
  generalize sk a.toNat s = x at *
  generalize nx s = ns at *
  go_enter Try.func6, Try.ntmps6
  go_wp2_with fail
  refine (C1.out _).mono ?_
  rintro e W1 ⟨rfl, b1⟩
  have F1 := FBox.new W1 0 0 23
  have B1 := b1.alloc b1.size (.cells #[.int .i64 0, .int .i64 0] 23)
  clear b1
  go_wp2_with fail
  refine (C2.out _).mono ?_
  rintro e W2 ⟨rfl, b2⟩
  have hz := b2.size
  have F2 := F1.below b2 F1.lt
  have B2 := B1.trans (b2.mono B1.size)
  have hR1 := F1.lt
  clear b2 F1 B1 C1 C2
  have hl := F2.lt
  have a0 := F2.c0
  have a1 := F2.c1
  have K := Lib.hid (fun y (hy : Below W2.heap.size W2 y) => (show Below W2.heap.size W2 y ∧ y.cell? ⟨W1.heap.size, 0, none⟩ = some (.int .i64 0) ∧ y.cell? ⟨W1.heap.size, 1, none⟩ = some (.int .i64 0) from
    ⟨hy, (F2.below hy F2.lt).c0, (F2.below hy F2.lt).c1⟩))
  go_wp2_with fail
  go_region_held3 (fun y => Below W2.heap.size W2 y ∧ y.cell? ⟨W1.heap.size, 0, none⟩ = some (.int .i64 0) ∧ y.cell? ⟨W1.heap.size, 1, none⟩ = some (.int .i64 0))
    (first | exact K.out _ hR | exact K.out _ (Below.refl _ _).drew | fail)
    ((go_at_call 10; have hs0 := And.left ‹Below W2.heap.size W2 _ ∧ _›; refine (C3.out _).mono ?_; rintro e y ⟨rfl, hb9⟩; have hR := hs0.trans (hb9.mono hs0.size)))
  all_goals
    obtain ⟨hz1, a0, a1⟩ := ‹Below W2.heap.size W2 _ ∧ _›
    have F3 := F2.below hz1 F2.lt
    have hl3 := F3.lt
    have B3 := B2.trans (hz1.mono B2.size)
    clear F2 B2 K hz1
    go_wp2_with fail
    clear a0 a1 hl3
    refine (C4.out _).mono ?_
    rintro e W4 ⟨rfl, b4⟩
    have F4 := FBox.new W4 0 0 23
    have B4 := (B3.trans (b4.mono B3.size)).alloc (Nat.le_trans B3.size b4.size) (.cells #[.int .i64 0, .int .i64 0] 23)
    clear b4 F3 B3 C4
    have hl := F4.lt
    have a0 := F4.c0
    have a1 := F4.c1
    have K := Lib.hid (fun y (hy : Below (W4.heap.size + 1) (W4.alloc (.cells #[.int .i64 0, .int .i64 0] 23)) y) => (show Below (W4.heap.size + 1) (W4.alloc (.cells #[.int .i64 0, .int .i64 0] 23)) y ∧ y.cell? ⟨W4.heap.size, 0, none⟩ = some (.int .i64 0) ∧ y.cell? ⟨W4.heap.size, 1, none⟩ = some (.int .i64 0) from
      ⟨hy, (F4.below hy (by omega)).c0, (F4.below hy (by omega)).c1⟩))
    go_wp2_with fail
    go_region_held3 (fun y => Below (W4.heap.size + 1) (W4.alloc (.cells #[.int .i64 0, .int .i64 0] 23)) y ∧ y.cell? ⟨W4.heap.size, 0, none⟩ = some (.int .i64 0) ∧ y.cell? ⟨W4.heap.size, 1, none⟩ = some (.int .i64 0))
      (first | exact K.out _ hR | exact K.out _ (Below.refl _ _).drew | fail)
      ((go_at_call 10; have hs0 := And.left ‹Below (W4.heap.size + 1) _ _ ∧ _›; refine (C5.out _).mono ?_; rintro e y ⟨rfl, hb9⟩; have hR := hs0.trans (hb9.mono (by first | (simp; done) | (have := hs0.size; simp at this ⊢; omega)))))
    all_goals
      obtain ⟨hz1, a0, a1⟩ := ‹Below (W4.heap.size + 1) _ _ ∧ _›
      have hl5 := (F4.below hz1 (by omega)).lt
      have B5 := B4.trans (hz1.mono (by have := B4.size; simp at this; omega))
      clear F4 B4 K hz1
      go_wp2_with fail
      clear a0 a1 hl5
      refine (C6.out _).mono ?_
      rintro e W6 ⟨rfl, b6⟩
      have F6 := FBox.new W6 0 0 23
      have B6 := (B5.trans (b6.mono B5.size)).alloc (Nat.le_trans B5.size b6.size) (.cells #[.int .i64 0, .int .i64 0] 23)
      clear b6 B5
      go_wp2_with fail
      refine (C7.out _).mono ?_
      rintro e W7 ⟨rfl, b7⟩
      have F7 := FBox.new W7 0 0 23
      have F6 := (F6.below b7 F6.lt).alloc (.cells #[.int .i64 0, .int .i64 0] 23)
      have B7 := (B6.trans (b7.mono B6.size)).alloc (Nat.le_trans B6.size b7.size) (.cells #[.int .i64 0, .int .i64 0] 23)
      clear b7 B6
      have hl6 := F6.lt
      have hl7 := F7.lt
      have a0 := F6.c0
      have c0 := F7.c0
      go_wp2_with fail
      clear a0 c0 hl6 hl7
      refine (C9.out _).mono ?_
      rintro e W8 ⟨rfl, rfl⟩
      clear F6 F7
      go_wp2_with fail
      refine (C8.out _).mono ?_
      rintro e W9 ⟨rfl, b9⟩
      have F9 := FBox.new W9 0 0 23
      have B9 := (B7.trans (b9.mono B7.size)).alloc (Nat.le_trans B7.size b9.size) (.cells #[.int .i64 0, .int .i64 0] 23)
      clear b9 B7
      have hl9 := F9.lt
      have a0 := F9.c0
      have a1 := F9.c1
      have hcmp : decide (1000000 < a + b) = false := by simp; omega
      go_wp2_with fail
      go_quiet (fail)
      go_wp2
      go_ret
      exact ⟨rfl, below_drewN B9 _⟩

set_option maxHeartbeats 3200000 in
theorem lawSkipD_any (s a b : Int) (w : World) (h : rfC s a 0 = 0) (hb : rfC (sk a.toNat s) b 0 = 0) (hab : 1000000 < a + b) :
    Calls Try.prog 6 #[.int .i64 s, .int .i64 a, .int .i64 b] w fun e w' => e = .returned (.bool true) ∧ Below w.heap.size w w' := by
  have C1 := Lib.hid (fun W => skip_any s a W)
  have C2 := Lib.hid (fun W => rngExample_any W)
  have C3 := Lib.hid (fun W => validSeed_any s a 0 W)
  have e1 : skV s a = sk a.toNat s := by unfold skV; rw [if_pos h]
  obtain ⟨sl0, sl1, ha0, ha1⟩ := rfC_zero h
  obtain ⟨_, _, hb0, hb1⟩ := rfC_zero hb
  have hs := sd_iff.2 ⟨sl0, sl1⟩
  have C4 := Lib.hid (fun W => skip_any (sk a.toNat s) b W)
  have C5 := Lib.hid (fun W => validSeed_any (sk a.toNat s) b 0 W)
  have C6 := Lib.hid (fun W => skip_any s 0 W)
  have C7 := Lib.hid (fun W => skip_any s 1 W)
  have C8 := Lib.hid (fun W => skip_any s (a + b) W)
  have C9 := Lib.hid (fun W => nextSeed_any s W sl0 sl1)
  have e2 : skV (sk a.toNat s) b = sk b.toNat (sk a.toNat s) := by unfold skV; rw [if_pos hb]
  have e3 : sk b.toNat (sk a.toNat s) = sk (a + b).toNat s := by rw [← sk_add]; congr 1; omega
  have e4 : rfC s (a + b) 0 = 3 := by unfold rfC; rw [if_pos hs]; rw [if_pos (by omega)]
  have e5 : rfI s (a + b) 0 = 0 := by unfold rfI; rw [if_pos hs]
  unfold NX at C1 C4 C6 C7 C8
  unfold CK at C3 C5
  rw [h, rfI_zero h, e1] at C1; rw [h, rfI_zero h] at C3; rw [hb, e2, rfI_zero hb, e3] at C4; rw [hb, rfI_zero hb] at C5
  rw [(skV_zero hs).1, (skV_zero hs).2, rfI_zero (skV_zero hs).2] at C6
  rw [(skV_one hs).1, (skV_one hs).2, rfI_zero (skV_one hs).2] at C7
  have e8 : skV s (a + b) = 0 := by unfold skV; rw [if_neg (by rw [e4]; decide)]
  rw [e4, e5, e8] at C8
  clear h e1 e2 hb e3 e4 e5 e8 hs
  generalize sk (a + b).toNat s = z at *
  generalize sk a.toNat s = x at *
  generalize nx s = ns at *
  go_enter Try.func6, Try.ntmps6
  go_wp2_with fail
  refine (C1.out _).mono ?_
  rintro e W1 ⟨rfl, b1⟩
  have F1 := FBox.new W1 0 0 23
  have B1 := b1.alloc b1.size (.cells #[.int .i64 0, .int .i64 0] 23)
  clear b1
  go_wp2_with fail
  refine (C2.out _).mono ?_
  rintro e W2 ⟨rfl, b2⟩
  have hz := b2.size
  have F2 := F1.below b2 F1.lt
  have B2 := B1.trans (b2.mono B1.size)
  have hR1 := F1.lt
  clear b2 F1 B1 C1 C2
  have hl := F2.lt
  have a0 := F2.c0
  have a1 := F2.c1
  have K := Lib.hid (fun y (hy : Below W2.heap.size W2 y) => (show Below W2.heap.size W2 y ∧ y.cell? ⟨W1.heap.size, 0, none⟩ = some (.int .i64 0) ∧ y.cell? ⟨W1.heap.size, 1, none⟩ = some (.int .i64 0) from
    ⟨hy, (F2.below hy F2.lt).c0, (F2.below hy F2.lt).c1⟩))
  go_wp2_with fail
  go_region_held3 (fun y => Below W2.heap.size W2 y ∧ y.cell? ⟨W1.heap.size, 0, none⟩ = some (.int .i64 0) ∧ y.cell? ⟨W1.heap.size, 1, none⟩ = some (.int .i64 0))
    (first | exact K.out _ hR | exact K.out _ (Below.refl _ _).drew | fail)
    ((go_at_call 10; have hs0 := And.left ‹Below W2.heap.size W2 _ ∧ _›; refine (C3.out _).mono ?_; rintro e y ⟨rfl, hb9⟩; have hR := hs0.trans (hb9.mono hs0.size)))
  all_goals
    obtain ⟨hz1, a0, a1⟩ := ‹Below W2.heap.size W2 _ ∧ _›
    have F3 := F2.below hz1 F2.lt
    have hl3 := F3.lt
    have B3 := B2.trans (hz1.mono B2.size)
    clear F2 B2 K hz1
    go_wp2_with fail
    clear a0 a1 hl3
    refine (C4.out _).mono ?_
    rintro e W4 ⟨rfl, b4⟩
    have F4 := FBox.new W4 0 0 23
    have B4 := (B3.trans (b4.mono B3.size)).alloc (Nat.le_trans B3.size b4.size) (.cells #[.int .i64 0, .int .i64 0] 23)
    clear b4 F3 B3 C4
    have hl := F4.lt
    have a0 := F4.c0
    have a1 := F4.c1
    have K := Lib.hid (fun y (hy : Below (W4.heap.size + 1) (W4.alloc (.cells #[.int .i64 0, .int .i64 0] 23)) y) => (show Below (W4.heap.size + 1) (W4.alloc (.cells #[.int .i64 0, .int .i64 0] 23)) y ∧ y.cell? ⟨W4.heap.size, 0, none⟩ = some (.int .i64 0) ∧ y.cell? ⟨W4.heap.size, 1, none⟩ = some (.int .i64 0) from
      ⟨hy, (F4.below hy (by omega)).c0, (F4.below hy (by omega)).c1⟩))
    go_wp2_with fail
    go_region_held3 (fun y => Below (W4.heap.size + 1) (W4.alloc (.cells #[.int .i64 0, .int .i64 0] 23)) y ∧ y.cell? ⟨W4.heap.size, 0, none⟩ = some (.int .i64 0) ∧ y.cell? ⟨W4.heap.size, 1, none⟩ = some (.int .i64 0))
      (first | exact K.out _ hR | exact K.out _ (Below.refl _ _).drew | fail)
      ((go_at_call 10; have hs0 := And.left ‹Below (W4.heap.size + 1) _ _ ∧ _›; refine (C5.out _).mono ?_; rintro e y ⟨rfl, hb9⟩; have hR := hs0.trans (hb9.mono (by first | (simp; done) | (have := hs0.size; simp at this ⊢; omega)))))
    all_goals
      obtain ⟨hz1, a0, a1⟩ := ‹Below (W4.heap.size + 1) _ _ ∧ _›
      have hl5 := (F4.below hz1 (by omega)).lt
      have B5 := B4.trans (hz1.mono (by have := B4.size; simp at this; omega))
      clear F4 B4 K hz1
      go_wp2_with fail
      clear a0 a1 hl5
      refine (C6.out _).mono ?_
      rintro e W6 ⟨rfl, b6⟩
      have F6 := FBox.new W6 0 0 23
      have B6 := (B5.trans (b6.mono B5.size)).alloc (Nat.le_trans B5.size b6.size) (.cells #[.int .i64 0, .int .i64 0] 23)
      clear b6 B5
      go_wp2_with fail
      refine (C7.out _).mono ?_
      rintro e W7 ⟨rfl, b7⟩
      have F7 := FBox.new W7 0 0 23
      have F6 := (F6.below b7 F6.lt).alloc (.cells #[.int .i64 0, .int .i64 0] 23)
      have B7 := (B6.trans (b7.mono B6.size)).alloc (Nat.le_trans B6.size b7.size) (.cells #[.int .i64 0, .int .i64 0] 23)
      clear b7 B6
      have hl6 := F6.lt
      have hl7 := F7.lt
      have a0 := F6.c0
      have c0 := F7.c0
      go_wp2_with fail
      clear a0 c0 hl6 hl7
      refine (C9.out _).mono ?_
      rintro e W8 ⟨rfl, rfl⟩
      clear F6 F7
      go_wp2_with fail
      refine (C8.out _).mono ?_
      rintro e W9 ⟨rfl, b9⟩
      have F9 := FBox.new W9 3 0 23
      have B9 := (B7.trans (b9.mono B7.size)).alloc (Nat.le_trans B7.size b9.size) (.cells #[.int .i64 3, .int .i64 0] 23)
      clear b9 B7
      have hl9 := F9.lt
      have a0 := F9.c0
      have a1 := F9.c1
      have hcmp : decide (1000000 < a + b) = true := by simp; omega
      have K := Lib.hid (fun y (hy : Below (W9.heap.size + 1) (W9.alloc (.cells #[.int .i64 3, .int .i64 0] 23)) y) => (show Below (W9.heap.size + 1) (W9.alloc (.cells #[.int .i64 3, .int .i64 0] 23)) y ∧ y.cell? ⟨W9.heap.size, 0, none⟩ = some (.int .i64 3) ∧ y.cell? ⟨W9.heap.size, 1, none⟩ = some (.int .i64 0) from
        ⟨hy, (F9.below hy (by omega)).c0, (F9.below hy (by omega)).c1⟩))
      go_wp2_with fail
      have hwr : IntKind.i64.wrap (a + b) = a + b := IntWalk.i64_in _ (by omega)
      have z0 : Below (W9.heap.size + 1) (W9.alloc (.cells #[.int .i64 3, .int .i64 0] 23)) (W9.alloc (.cells #[.int .i64 3, .int .i64 0] 23)).drew := (Below.refl _ _).drew
      refine wp_region_held_drew (S := (fun y => Below (W9.heap.size + 1) (W9.alloc (.cells #[.int .i64 3, .int .i64 0] 23)) y ∧ y.cell? ⟨W9.heap.size, 0, none⟩ = some (.int .i64 3) ∧ y.cell? ⟨W9.heap.size, 1, none⟩ = some (.int .i64 0))) (by kernel_rfl) (K.out _ z0) (fun hHeld => ?_)
      refine wpAnyH_take (i := 0) (oi := { dst := some 88, op := Op.move (Operand.tmp 1), type := 3, pos := "store.go:412", after := #[], guard := none }) (v := ?vp0) rfl (by kernel_rfl) (by kernel_rfl) (by kernel_rfl) (fun _ _ _ h => h) (Or.inl ⟨by rfl, ?yp0⟩) (by assumption) ?rp0
      case yp0 =>
        intro wz hSw
        try dsimp only at hSw
        go_simp
        try with_reducible rfl
      try simp only [Act.put, List.setIfInBounds_toArray, List.set_cons_zero, List.set_cons_succ]
      refine wpAnyH_take (i := 1) (oi := { dst := some 89, op := Op.move (Operand.tmp 2), type := 3, pos := "store.go:412", after := #[], guard := none }) (v := ?vp1) rfl (by kernel_rfl) (by kernel_rfl) (by kernel_rfl) (fun _ _ _ h => h) (Or.inl ⟨by rfl, ?yp1⟩) (by assumption) ?rp1
      case yp1 =>
        intro wz hSw
        try dsimp only at hSw
        go_simp
        try with_reducible rfl
      try simp only [Act.put, List.setIfInBounds_toArray, List.set_cons_zero, List.set_cons_succ]
      refine wpAnyH_take (i := 2) (oi := { dst := some 90, op := Op.binOp BinOp.add 3 (Operand.tmp 88) (Operand.tmp 89) 3, type := 3, pos := "store.go:412", after := #[{ on := 0, ground := Ground.data }, { on := 1, ground := Ground.data }], guard := none }) (v := .int .i64 (a + b)) rfl (by kernel_rfl) (by kernel_rfl) (by kernel_rfl) (fun _ _ _ h => h) (Or.inl ⟨by rfl, ?yp2⟩) (by assumption) ?rp2
      case yp2 =>
        intro wz hSw
        try dsimp only at hSw
        go_simp
        try simp [*]
      try simp only [Act.put, List.setIfInBounds_toArray, List.set_cons_zero, List.set_cons_succ]
      refine wpAnyH_take (i := 3) (oi := { dst := some 91, op := Op.binOp BinOp.gtr 3 (Operand.tmp 90) (Operand.const (Value.int IntKind.i64 1000000)) 3, type := 4, pos := "store.go:412", after := #[{ on := 2, ground := Ground.data }], guard := none }) (v := .bool true) rfl (by kernel_rfl) (by kernel_rfl) (by kernel_rfl) (fun _ _ _ h => h) (Or.inl ⟨by rfl, ?yp3⟩) (by assumption) ?rp3
      case yp3 =>
        intro wz hSw
        try dsimp only at hSw
        go_simp
        try simp [*]
      try simp only [Act.put, List.setIfInBounds_toArray, List.set_cons_zero, List.set_cons_succ]
      refine wpAnyH_take (i := 4) (oi := { dst := some 92, op := Op.move (Operand.tmp 91), type := 4, pos := "store.go:412", after := #[{ on := 3, ground := Ground.data }], guard := none }) (v := ?vp4) rfl (by kernel_rfl) (by kernel_rfl) (by kernel_rfl) (fun _ _ _ h => h) (Or.inl ⟨by rfl, ?yp4⟩) (by assumption) ?rp4
      case yp4 =>
        intro wz hSw
        try dsimp only at hSw
        go_simp
        try with_reducible rfl
      try simp only [Act.put, List.setIfInBounds_toArray, List.set_cons_zero, List.set_cons_succ]
      refine wpAnyH_take (i := 5) (oi := { dst := some 93, op := Op.load 23 (Operand.tmp 16), type := 23, pos := "store.go:412", after := #[{ on := 4, ground := Ground.guard }], guard := some (4, true) }) (v := ?vp5) rfl (by kernel_rfl) (by kernel_rfl) (by kernel_rfl) (fun _ _ _ h => h) (Or.inl ⟨by rfl, ?yp5⟩) (by assumption) ?rp5
      case yp5 =>
        intro wz hSw
        try dsimp only at hSw
        go_simp
        try with_reducible rfl
      try simp only [Act.put, List.setIfInBounds_toArray, List.set_cons_zero, List.set_cons_succ]
      refine wpAnyH_ready (rs := [6]) (by kernel_rfl) (by simp) ?_
      refine AllReadyH.cons (o := { dst := some 94, op := Op.call { callee := Callee.value (Operand.func 15), args := #[Operand.const (Value.int IntKind.i64 3), Operand.const (Value.int IntKind.i64 0)], argTypes := #[3, 3] }, type := 23, pos := "store.go:412", after := #[{ on := 4, ground := Ground.chain }, { on := 4, ground := Ground.guard }], guard := some (4, true) }) rfl (fun K9 hK9 => ?_) AllReadyH.nil
      go_simp
      refine (newFault_any _ _ _).mono ?_
      rintro e y1 ⟨rfl, hb9⟩
      have z1 := z0.trans (hb9.mono (by simp))
      refine hK9.out _ _ (K.out _ z1) (fun hHeld1 => ?_)
      clear hK9 K9 hHeld
      try simp only [Act.put, List.setIfInBounds_toArray, List.set_cons_zero, List.set_cons_succ]
      refine wpAnyH_take (i := 7) (oi := { dst := some 95, op := Op.binOp BinOp.eql 23 (Operand.tmp 93) (Operand.tmp 94) 23, type := 4, pos := "store.go:412", after := #[{ on := 5, ground := Ground.data }, { on := 6, ground := Ground.data }, { on := 4, ground := Ground.guard }], guard := some (4, true) }) (v := ?vp7) rfl (by kernel_rfl) (by kernel_rfl) (by kernel_rfl) (fun _ _ _ h => h) (Or.inl ⟨by rfl, ?yp7⟩) (by assumption) ?rp7
      case yp7 =>
        intro wz hSw
        try dsimp only at hSw
        go_simp
        try with_reducible rfl
      try simp only [Act.put, List.setIfInBounds_toArray, List.set_cons_zero, List.set_cons_succ]
      refine wpAnyH_take (i := 8) (oi := { dst := some 96, op := Op.pick (Operand.tmp 92) (Operand.tmp 95) (Operand.const (Value.bool false)), type := 4, pos := "store.go:412", after := #[{ on := 4, ground := Ground.data }, { on := 7, ground := Ground.data }], guard := none }) (v := ?vp8) rfl (by kernel_rfl) (by kernel_rfl) (by kernel_rfl) (fun _ _ _ h => h) (Or.inl ⟨by rfl, ?yp8⟩) (by assumption) ?rp8
      case yp8 =>
        intro wz hSw
        try dsimp only at hSw
        go_simp
        try with_reducible rfl
      try simp only [Act.put, List.setIfInBounds_toArray, List.set_cons_zero, List.set_cons_succ]
      refine wpAnyH_take (i := 9) (oi := { dst := some 97, op := Op.move (Operand.tmp 96), type := 4, pos := "store.go:412", after := #[{ on := 8, ground := Ground.data }, { on := 6, ground := Ground.chain }], guard := none }) (v := ?vp9) rfl (by kernel_rfl) (by kernel_rfl) (by kernel_rfl) (fun _ _ _ h => h) (Or.inl ⟨by rfl, ?yp9⟩) (by assumption) ?rp9
      case yp9 =>
        intro wz hSw
        try dsimp only at hSw
        go_simp
        try with_reducible rfl
      try simp only [Act.put, List.setIfInBounds_toArray, List.set_cons_zero, List.set_cons_succ]
      refine wpAnyH_take (i := 10) (oi := { dst := some 98, op := Op.fieldAddr 23 (Operand.tmp 16) 0, type := 0, pos := "store.go:412", after := #[{ on := 9, ground := Ground.guard }], guard := some (9, false) }) (v := undef) rfl (by kernel_rfl) (by kernel_rfl) (by kernel_rfl) (fun _ _ _ h => h) (Or.inr ⟨by rfl, rfl⟩) (by assumption) ?_
      try simp only [Act.put, List.setIfInBounds_toArray, List.set_cons_zero, List.set_cons_succ]
      refine wpAnyH_take (i := 11) (oi := { dst := some 99, op := Op.load 3 (Operand.tmp 98), type := 3, pos := "store.go:412", after := #[{ on := 10, ground := Ground.data }, { on := 9, ground := Ground.guard }], guard := some (9, false) }) (v := undef) rfl (by kernel_rfl) (by kernel_rfl) (by kernel_rfl) (fun _ _ _ h => h) (Or.inr ⟨by rfl, rfl⟩) (by assumption) ?_
      try simp only [Act.put, List.setIfInBounds_toArray, List.set_cons_zero, List.set_cons_succ]
      refine wpAnyH_take (i := 12) (oi := { dst := some 100, op := Op.binOp BinOp.eql 3 (Operand.tmp 99) (Operand.const (Value.int IntKind.i64 0)) 3, type := 4, pos := "store.go:412", after := #[{ on := 11, ground := Ground.data }, { on := 9, ground := Ground.guard }], guard := some (9, false) }) (v := undef) rfl (by kernel_rfl) (by kernel_rfl) (by kernel_rfl) (fun _ _ _ h => h) (Or.inr ⟨by rfl, rfl⟩) (by assumption) ?_
      try simp only [Act.put, List.setIfInBounds_toArray, List.set_cons_zero, List.set_cons_succ]
      refine wpAnyH_take (i := 13) (oi := { dst := some 101, op := Op.move (Operand.tmp 100), type := 4, pos := "store.go:412", after := #[{ on := 12, ground := Ground.data }, { on := 9, ground := Ground.chain }, { on := 9, ground := Ground.guard }], guard := some (9, false) }) (v := undef) rfl (by kernel_rfl) (by kernel_rfl) (by kernel_rfl) (fun _ _ _ h => h) (Or.inr ⟨by rfl, rfl⟩) (by assumption) ?_
      try simp only [Act.put, List.setIfInBounds_toArray, List.set_cons_zero, List.set_cons_succ]
      refine wpAnyH_take (i := 14) (oi := { dst := some 102, op := Op.move (Operand.tmp 15), type := 3, pos := "store.go:412", after := #[{ on := 13, ground := Ground.guard }], guard := some (13, true) }) (v := undef) rfl (by kernel_rfl) (by kernel_rfl) (by kernel_rfl) (fun _ _ _ h => h) (Or.inr ⟨by rfl, rfl⟩) (by assumption) ?_
      try simp only [Act.put, List.setIfInBounds_toArray, List.set_cons_zero, List.set_cons_succ]
      refine wpAnyH_take (i := 15) (oi := { dst := some 103, op := Op.move (Operand.tmp 9), type := 3, pos := "store.go:412", after := #[{ on := 13, ground := Ground.guard }], guard := some (13, true) }) (v := undef) rfl (by kernel_rfl) (by kernel_rfl) (by kernel_rfl) (fun _ _ _ h => h) (Or.inr ⟨by rfl, rfl⟩) (by assumption) ?_
      try simp only [Act.put, List.setIfInBounds_toArray, List.set_cons_zero, List.set_cons_succ]
      refine wpAnyH_take (i := 16) (oi := { dst := some 104, op := Op.binOp BinOp.eql 3 (Operand.tmp 102) (Operand.tmp 103) 3, type := 4, pos := "store.go:412", after := #[{ on := 14, ground := Ground.data }, { on := 15, ground := Ground.data }, { on := 13, ground := Ground.guard }], guard := some (13, true) }) (v := undef) rfl (by kernel_rfl) (by kernel_rfl) (by kernel_rfl) (fun _ _ _ h => h) (Or.inr ⟨by rfl, rfl⟩) (by assumption) ?_
      try simp only [Act.put, List.setIfInBounds_toArray, List.set_cons_zero, List.set_cons_succ]
      refine wpAnyH_take (i := 17) (oi := { dst := some 105, op := Op.pick (Operand.tmp 101) (Operand.tmp 104) (Operand.const (Value.bool false)), type := 4, pos := "store.go:412", after := #[{ on := 13, ground := Ground.data }, { on := 16, ground := Ground.data }, { on := 9, ground := Ground.guard }], guard := some (9, false) }) (v := undef) rfl (by kernel_rfl) (by kernel_rfl) (by kernel_rfl) (fun _ _ _ h => h) (Or.inr ⟨by rfl, rfl⟩) (by assumption) ?_
      try simp only [Act.put, List.setIfInBounds_toArray, List.set_cons_zero, List.set_cons_succ]
      refine wpAnyH_take (i := 18) (oi := { dst := some 106, op := Op.pick (Operand.tmp 97) (Operand.const (Value.bool true)) (Operand.tmp 105), type := 4, pos := "store.go:412", after := #[{ on := 9, ground := Ground.data }, { on := 17, ground := Ground.data }], guard := none }) (v := ?vp18) rfl (by kernel_rfl) (by kernel_rfl) (by kernel_rfl) (fun _ _ _ h => h) (Or.inl ⟨by rfl, ?yp18⟩) (by assumption) ?rp18
      case yp18 =>
        intro wz hSw
        try dsimp only at hSw
        go_simp
        try with_reducible rfl
      try simp only [Act.put, List.setIfInBounds_toArray, List.set_cons_zero, List.set_cons_succ]
      refine wpAnyH_take (i := 19) (oi := { dst := some 6, op := Op.assign (Operand.tmp 106), type := 4, pos := "store.go:412", after := #[{ on := 18, ground := Ground.data }, { on := 13, ground := Ground.chain }, { on := 0, ground := Ground.phase }, { on := 1, ground := Ground.phase }, { on := 2, ground := Ground.phase }, { on := 3, ground := Ground.phase }, { on := 4, ground := Ground.phase }, { on := 5, ground := Ground.phase }, { on := 6, ground := Ground.phase }, { on := 7, ground := Ground.phase }, { on := 8, ground := Ground.phase }, { on := 9, ground := Ground.phase }, { on := 10, ground := Ground.phase }, { on := 11, ground := Ground.phase }, { on := 12, ground := Ground.phase }, { on := 13, ground := Ground.phase }, { on := 14, ground := Ground.phase }, { on := 15, ground := Ground.phase }, { on := 16, ground := Ground.phase }, { on := 17, ground := Ground.phase }, { on := 18, ground := Ground.phase }], guard := none }) (v := ?vp19) rfl (by kernel_rfl) (by kernel_rfl) (by kernel_rfl) (fun _ _ _ h => h) (Or.inl ⟨by rfl, ?yp19⟩) (by assumption) ?rp19
      case yp19 =>
        intro wz hSw
        try dsimp only at hSw
        go_simp
        try with_reducible rfl
      try simp only [Act.put, List.setIfInBounds_toArray, List.set_cons_zero, List.set_cons_succ]
      refine wpAnyH_done (by kernel_rfl) ?_ _
      go_wp2
      go_ret
      exact ⟨rfl, B9.trans (z1.mono (by have := B9.size; simp at this; omega))⟩

theorem lawSkip_any (s a b : Int) (w : World) :
    Calls Try.prog 6 #[.int .i64 s, .int .i64 a, .int .i64 b] w fun e w' => e = .returned (.bool true) ∧ Below w.heap.size w w' := by
  rcases rfC_or s a 0 with h | h
  · exact lawSkipA_any s a b w h
  · rcases rfC_or (sk a.toNat s) b 0 with hb | hb
    · exact lawSkipB_any s a b w h hb
    · by_cases hab : a + b ≤ 1000000
      · exact lawSkipC_any s a b w h hb hab
      · exact lawSkipD_any s a b w h hb (by omega)

end Go.Proofs.Ytiknheoeldboaaa
