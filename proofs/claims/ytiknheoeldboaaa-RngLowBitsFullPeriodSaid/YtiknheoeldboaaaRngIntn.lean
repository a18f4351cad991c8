/- The program's Intn, and the law RngIntnMatchesSpec returns true at every seed and bound. No condition. -/
import Derived.Test.YtiknheoeldboaaaRngStep

set_option linter.all false
namespace Go.Proofs.Ytiknheoeldboaaa
open Go.RowKit

def inV (s n : Int) : Int := if rfC s n 1 = 0 then nx s / 65536 % n else 0
def inT (s n : Int) : Int := if rfC s n 1 = 0 then nx s else 0
def INP (v t c i : Int) (w : World) (e : Ending) (w' : World) : Prop := e = .returned (.tuple #[.int .i64 v, .int .i64 t, .agg #[.int .i64 c, .int .i64 i]]) ∧ Below w.heap.size w w'

theorem rfC_zero {s n lo : Int} (h : rfC s n lo = 0) : 0 ≤ s ∧ s < 4294967296 ∧ lo ≤ n ∧ n ≤ 1000000 := by
  unfold rfC at h
  by_cases hs : sd s = true
  · rw [if_pos hs] at h
    obtain ⟨h0, h1⟩ := sd_iff.1 hs
    by_cases hn : n < lo ∨ 1000000 < n
    · rw [if_pos hn] at h; exact absurd h (by decide)
    · omega
  · rw [if_neg hs] at h; exact absurd h (by decide)
theorem rfC_or (s n lo : Int) : rfC s n lo = 3 ∨ rfC s n lo = 0 := by
  unfold rfC
  by_cases hs : sd s = true
  · rw [if_pos hs]; by_cases hn : n < lo ∨ 1000000 < n
    · rw [if_pos hn]; exact .inl rfl
    · rw [if_neg hn]; exact .inr rfl
  · rw [if_neg hs]; exact .inl rfl
theorem rfI_zero {s n lo : Int} (h : rfC s n lo = 0) : rfI s n lo = 0 := by
  obtain ⟨h0, h1, _⟩ := rfC_zero h
  unfold rfI; rw [if_pos (sd_iff.2 ⟨h0, h1⟩)]

set_option maxHeartbeats 1600000 in
theorem intn_any (s n : Int) (w : World) :
    Calls Try.prog 13 #[.int .i64 s, .int .i64 n] w (INP (inV s n) (inT s n) (rfC s n 1) (rfI s n 1) w) := by
  have C1 := Lib.hid (fun W => check_any s n 1 W)
  unfold CK at C1
  rcases rfC_or s n 1 with h | h
  · have e1 : inV s n = 0 := by unfold inV; rw [if_neg (by rw [h]; decide)]
    have e2 : inT s n = 0 := by unfold inT; rw [if_neg (by rw [h]; decide)]
    rw [h] at C1; rw [h, e1, e2]
    clear h e1 e2
    generalize rfI s n 1 = i at *
    go_enter Try.func13, Try.ntmps13
    go_wp2_with fail
    refine (C1.out _).mono ?_
    rintro e W1 ⟨rfl, b1⟩
    obtain ⟨l0, a0, a1, f0, f1⟩ := (FBox.new w 0 0 23).below b1 (by simp)
    have B1 : Below w.heap.size w W1 := ((Below.refl _ _).alloc (Nat.le_refl _) _).trans (b1.mono (by simp))
    clear b1 C1
    go_wp2
    go_region
    all_goals
      go_wp2
      exact bodyPost_ret (v := .tuple #[.int .i64 0, .int .i64 0, faultV 3 i]) (by simp [results, Try.results13, faultV, go_sem, l0, a0, a1]) rfl ⟨rfl, by repeat (first | exact B1 | refine Below.setCell ?_ (by simp) _ | refine Below.alloc ?_ (by have := B1.size; simp; omega) _ | refine Below.drew ?_)⟩
  · obtain ⟨hs0, hs1, hn, hN⟩ := rfC_zero h
    have e1 : inV s n = nx s / 65536 % n := by unfold inV; rw [if_pos h]
    have e2 : inT s n = nx s := by unfold inT; rw [if_pos h]
    have hy := sd_iff.1 (nx_sd s)
    have C2 := Lib.hid (fun W => draw_any s n W hn hN)
    rw [h, rfI_zero h] at C1; rw [h, rfI_zero h, e1, e2]
    clear h e1 e2
    generalize nx s = y at *
    generalize y / 65536 % n = z at *
    go_enter Try.func13, Try.ntmps13
    go_wp2_with fail
    refine (C1.out _).mono ?_
    rintro e W1 ⟨rfl, b1⟩
    obtain ⟨l0, a0, a1, f0, f1⟩ := (FBox.new w 0 0 23).below b1 (by simp)
    have B1 : Below w.heap.size w W1 := ((Below.refl _ _).alloc (Nat.le_refl _) _).trans (b1.mono (by simp))
    clear b1 C1
    go_wp2_with fail
    refine (C2.out _).mono ?_
    rintro e W2 ⟨rfl, rfl⟩
    go_wp2
    exact bodyPost_ret (v := .tuple #[.int .i64 z, .int .i64 y, faultV 0 0]) (by simp [results, Try.results13, faultV, go_sem, l0, a0, a1]) rfl ⟨rfl, by repeat (first | exact B1 | refine Below.setCell ?_ (by simp) _ | refine Below.alloc ?_ (by have := B1.size; simp; omega) _)⟩

set_option maxHeartbeats 3200000 in
theorem lawIntn_any (s n : Int) (w : World) :
    Calls Try.prog 4 #[.int .i64 s, .int .i64 n] w fun e w' => e = .returned (.bool true) ∧ Below w.heap.size w w' := by
  have C1 := Lib.hid (fun W => intn_any s n W)
  have C3 := Lib.hid (fun W => validSeed_any s n 1 W)
  have C4 := Lib.hid (fun W => rngExample_any W)
  unfold INP at C1
  unfold CK at C3
  rcases rfC_or s n 1 with h | h
  · have e1 : inV s n = 0 := by unfold inV; rw [if_neg (by rw [h]; decide)]
    have e2 : inT s n = 0 := by unfold inT; rw [if_neg (by rw [h]; decide)]
    rw [h, e1, e2] at C1; rw [h] at C3
    clear h e1 e2
    generalize rfI s n 1 = i at *
    go_enter Try.func4, Try.ntmps4
    go_wp2_with fail
    refine (C1.out _).mono ?_
    rintro e W1 ⟨rfl, b1⟩
    have F1 := FBox.new W1 3 i 23
    have B1 := b1.alloc b1.size (.cells #[.int .i64 3, .int .i64 i] 23)
    clear b1
    go_wp2_with fail
    refine (C3.out _).mono ?_
    rintro e W3 ⟨rfl, b3⟩
    have hz := b3.size
    obtain ⟨l1, a0, a1, g0, g1⟩ := F1.below b3 F1.lt
    have B3 := B1.trans (b3.mono B1.size)
    clear b3 F1 B1
    go_wp2_with fail
    refine (C4.out _).mono ?_
    rintro e W4 ⟨rfl, b4⟩
    go_wp2
    go_ret
    exact ⟨rfl, ((B3.alloc B3.size _).trans (b4.mono (by have := B3.size; simp; omega)))⟩
  · obtain ⟨hs0, hs1, hn, hN⟩ := rfC_zero h
    have e1 : inV s n = nx s / 65536 % n := by unfold inV; rw [if_pos h]
    have e2 : inT s n = nx s := by unfold inT; rw [if_pos h]
    have hy := sd_iff.1 (nx_sd s)
    rw [h, rfI_zero h, e1, e2] at C1; rw [h, rfI_zero h] at C3
    have C2 := Lib.hid (fun W => nextSeed_any s W hs0 hs1)
    clear h e1 e2
    generalize nx s = y at *
    have hy2 : 0 ≤ y / 65536 := by omega
    go_enter Try.func4, Try.ntmps4
    go_wp2_with fail
    refine (C1.out _).mono ?_
    rintro e W1 ⟨rfl, b1⟩
    have F1 := FBox.new W1 0 0 23
    have B1 := b1.alloc b1.size (.cells #[.int .i64 0, .int .i64 0] 23)
    clear b1
    go_wp2_with fail
    refine (C3.out _).mono ?_
    rintro e W3 ⟨rfl, b3⟩
    have hz := b3.size
    obtain ⟨l1, a0, a1, g0, g1⟩ := F1.below b3 F1.lt
    have B3 := B1.trans (b3.mono B1.size)
    clear b3 F1 B1
    go_wp2_with fail
    refine (C2.out _).mono ?_
    rintro e W5 ⟨rfl, rfl⟩
    go_wp2_with fail
    refine (C4.out _).mono ?_
    rintro e W4 ⟨rfl, b4⟩
    go_wp2
    go_ret
    exact ⟨rfl, ((B3.alloc B3.size _).trans (b4.mono (by have := B3.size; simp; omega)))⟩

end Go.Proofs.Ytiknheoeldboaaa
