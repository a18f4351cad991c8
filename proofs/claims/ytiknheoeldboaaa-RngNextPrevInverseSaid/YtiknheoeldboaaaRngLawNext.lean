/- The law RngNextPrevInverse returns true at every number. No condition. -/
import Derived.Test.YtiknheoeldboaaaRngStep

set_option linter.all false
namespace Go.Proofs.Ytiknheoeldboaaa
open Go.RowKit

set_option maxHeartbeats 3200000 in
theorem lawNext_any (s : Int) (w : World) :
    Calls Try.prog 3 #[.int .i64 s] w fun e w' => e = .returned (.bool true) ∧ Below w.heap.size w w' := by
  have C1 := Lib.hid (fun W => next_any s W)
  have C2 := Lib.hid (fun W => prev_any s W)
  have C3 := Lib.hid (fun W => validSeed_any s 0 0 W)
  have C4 := Lib.hid (fun W => rngExample_any W)
  unfold NX at C1 C2
  unfold CK at C3
  have main : ∀ x y c i : Int, Hid (nxV s = x ∧ pvV s = y ∧ rfC s 0 0 = c ∧ rfI s 0 0 = i) → ((c = 3 ∧ x = 0 ∧ y = 0) ∨ (c = 0 ∧ x = nx s ∧ 0 ≤ y ∧ y < 4294967296 ∧ nx y = s ∧ 0 ≤ s ∧ s < 4294967296)) →
      Calls Try.prog 3 #[.int .i64 s] w fun e w' => e = .returned (.bool true) ∧ Below w.heap.size w w' := by
    intro x y c i H hor
    obtain ⟨e1, e2, e3, e4⟩ := H.out
    rw [e1, e3, e4] at C1
    rw [e2, e3, e4] at C2
    rw [e3, e4] at C3
    clear e1 e2 e3 e4 H
    rcases hor with ⟨rfl, rfl, rfl⟩ | ⟨rfl, hx, hy0, hy1, hy, hs0, hs1⟩
    · go_enter Try.func3, Try.ntmps3
      go_wp2_with fail
      refine (C1.out _).mono ?_
      rintro e W1 ⟨rfl, b1⟩
      have F1 := FBox.new W1 3 i 23
      have B1 := b1.alloc b1.size (.cells #[.int .i64 3, .int .i64 i] 23)
      clear b1
      go_wp2_with fail
      refine (C2.out _).mono ?_
      rintro e W2 ⟨rfl, b2⟩
      have F2 := FBox.new W2 3 i 23
      have F1 := (F1.below b2 (by simp)).alloc (.cells #[.int .i64 3, .int .i64 i] 23)
      have B2 := (B1.trans (b2.mono B1.size)).alloc (Nat.le_trans B1.size b2.size) (.cells #[.int .i64 3, .int .i64 i] 23)
      clear b2
      go_wp2_with fail
      refine (C3.out _).mono ?_
      rintro e W3 ⟨rfl, b3⟩
      have hz := b3.size
      have hz2 := F1.lt
      obtain ⟨l2, a2, a3, g2, g3⟩ := F2.below b3 (by simp)
      obtain ⟨l1, a0, a1, g0, g1⟩ := F1.below b3 F1.lt
      have B3 := B2.trans (b3.mono B2.size)
      clear b3 F1 F2 B1
      go_wp2_with fail
      refine (C4.out _).mono ?_
      rintro e W4 ⟨rfl, b4⟩
      go_wp2
      go_ret
      exact ⟨rfl, ((B3.alloc B3.size _).trans (b4.mono (by have := B3.size; simp; omega)))⟩
    · go_enter Try.func3, Try.ntmps3
      go_wp2_with fail
      refine (C1.out _).mono ?_
      rintro e W1 ⟨rfl, b1⟩
      have F1 := FBox.new W1 0 i 23
      have B1 := b1.alloc b1.size (.cells #[.int .i64 0, .int .i64 i] 23)
      clear b1
      go_wp2_with fail
      refine (C2.out _).mono ?_
      rintro e W2 ⟨rfl, b2⟩
      have F2 := FBox.new W2 0 i 23
      have F1 := (F1.below b2 (by simp)).alloc (.cells #[.int .i64 0, .int .i64 i] 23)
      have B2 := (B1.trans (b2.mono B1.size)).alloc (Nat.le_trans B1.size b2.size) (.cells #[.int .i64 0, .int .i64 i] 23)
      clear b2
      go_wp2_with fail
      refine (C3.out _).mono ?_
      rintro e W3 ⟨rfl, b3⟩
      have hz := b3.size
      have hz2 := F1.lt
      obtain ⟨l2, a2, a3, g2, g3⟩ := F2.below b3 (by simp)
      obtain ⟨l1, a0, a1, g0, g1⟩ := F1.below b3 F1.lt
      have B3 := B2.trans (b3.mono B2.size)
      clear b3 F1 F2 B1
      go_wp2_with fail
      refine (nextSeed_any s _ hs0 hs1).mono ?_
      rintro e W4 ⟨rfl, rfl⟩
      have X := Lib.hid hx
      have Y := Lib.hid hy
      rw [← hx]
      clear hx hy
      go_wp2_with fail
      refine (nextSeed_any y _ hy0 hy1).mono ?_
      rintro e W4 ⟨rfl, rfl⟩
      rw [Y.out]
      go_wp2
      go_ret
      exact ⟨rfl, B3.alloc B3.size _⟩
  by_cases hs : sd s = true
  · refine main _ _ _ _ (Lib.hid ⟨rfl, rfl, rfl, rfl⟩) (.inr ?_)
    obtain ⟨hs0, hs1⟩ := sd_iff.1 hs
    have := sd_iff.1 (pv_sd s)
    exact ⟨by unfold rfC; rw [if_pos hs, if_neg (by omega)], by unfold nxV; rw [if_pos hs], by unfold pvV; rw [if_pos hs]; exact this.1, by unfold pvV; rw [if_pos hs]; exact this.2, by unfold pvV; rw [if_pos hs]; exact nx_pv hs, hs0, hs1⟩
  · refine main _ _ _ _ (Lib.hid ⟨rfl, rfl, rfl, rfl⟩) (.inl ?_)
    exact ⟨by unfold rfC; rw [if_neg hs], by unfold nxV; rw [if_neg hs], by unfold pvV; rw [if_neg hs]⟩

end Go.Proofs.Ytiknheoeldboaaa
