/- The program's successor, checkSeed, check, draw, and the reference's ValidateSeed and NextSeed. Conditions: as each theorem states. -/
import Derived.Test.YtiknheoeldboaaaFault
import Derived.Test.YtiknheoeldboaaaRngPlain
import Derived.IntWalk

set_option linter.all false
namespace Go.Proofs.Ytiknheoeldboaaa
open Go.RowKit

theorem nx_spell (s : Int) : (1664525 * s % 4294967296 + 1013904223) % 4294967296 = nx s := by unfold nx; omega
theorem nx_spell2 (s : Int) : (s * 1664525 + 1013904223) % 4294967296 = nx s := by unfold nx; rw [Int.mul_comm]

set_option maxHeartbeats 400000 in
theorem succ_any (s : Int) (w : World) :
    Calls Try.prog 20 #[.int .u32 s] w fun e w' => e = .returned (.int .u32 (nx s)) ∧ w = w' := by
  go_enter Try.func20, Try.ntmps20
  go_wp2
  go_ret
  exact ⟨ret_int (nx_spell s), rfl⟩

theorem sd_low {s : Int} (h : s < 0) : ¬ sd s = true := by rw [sd_iff]; omega
theorem sd_high {s : Int} (h : 4294967295 < s) : ¬ sd s = true := by rw [sd_iff]; omega

def CK (c i : Int) (w : World) (e : Ending) (w' : World) : Prop := e = .returned (.agg #[.int .i64 c, .int .i64 i]) ∧ Below w.heap.size w w'

set_option maxHeartbeats 400000 in
theorem checkSeed_any (s : Int) (w : World) :
    Calls Try.prog 19 #[.int .i64 s] w (CK (rfC s 0 0) (rfI s 0 0) w) := by
  by_cases h0 : s < 0
  · have e1 : rfC s 0 0 = 3 := by unfold rfC; rw [if_neg (sd_low h0)]
    have e2 : rfI s 0 0 = -1 := by unfold rfI; rw [if_neg (sd_low h0)]
    rw [e1, e2]; clear e1 e2
    go_enter Try.func19, Try.ntmps19
    go_wp2
    exact bodyPost_ret (v := faultV 3 (-1)) (by simp [results, Try.results19, faultV, go_sem]) rfl ⟨rfl, (Below.refl _ _).alloc (Nat.le_refl _) _⟩
  · by_cases h1 : 4294967295 < s
    · have e1 : rfC s 0 0 = 3 := by unfold rfC; rw [if_neg (sd_high h1)]
      have e2 : rfI s 0 0 = -1 := by unfold rfI; rw [if_neg (sd_high h1)]
      rw [e1, e2]; clear e1 e2
      go_enter Try.func19, Try.ntmps19
      go_wp2
      exact bodyPost_ret (v := faultV 3 (-1)) (by simp [results, Try.results19, faultV, go_sem]) rfl ⟨rfl, (Below.refl _ _).alloc (Nat.le_refl _) _⟩
    · have hs : sd s = true := sd_iff.2 (by omega)
      have e1 : rfC s 0 0 = 0 := by unfold rfC; rw [if_pos hs, if_neg (by omega)]
      have e2 : rfI s 0 0 = 0 := by unfold rfI; rw [if_pos hs]
      rw [e1, e2]; clear e1 e2 hs
      go_enter Try.func19, Try.ntmps19
      go_wp2
      exact bodyPost_ret (v := faultV 0 0) (by simp [results, Try.results19, faultV, go_sem]) rfl ⟨rfl, (Below.refl _ _).alloc (Nat.le_refl _) _⟩

set_option maxHeartbeats 800000 in
theorem check_any (s n lo : Int) (w : World) :
    Calls Try.prog 21 #[.int .i64 s, .int .i64 n, .int .i64 lo] w (CK (rfC s n lo) (rfI s n lo) w) := by
  have C1 := Lib.hid (fun W => checkSeed_any s W)
  unfold CK at C1
  by_cases hs : sd s = true
  · have e1 : rfC s 0 0 = 0 := by unfold rfC; rw [if_pos hs, if_neg (by omega)]
    have e2 : ∀ n lo, rfI s n lo = 0 := by intro n lo; unfold rfI; rw [if_pos hs]
    have e3 : rfC s n lo = if n < lo ∨ 1000000 < n then 3 else 0 := by unfold rfC; rw [if_pos hs]
    rw [e1, e2] at C1; rw [e3, e2]
    clear e1 e2 e3 hs
    by_cases hlo : n < lo
    · rw [if_pos (Or.inl hlo)]
      go_enter Try.func21, Try.ntmps21
      go_wp2_with fail
      refine (C1.out _).mono ?_
      rintro e W1 ⟨rfl, b1⟩
      obtain ⟨l0, a0, a1, f0, f1⟩ := (FBox.new w 0 0 23).below b1 (by simp)
      have B1 : Below w.heap.size w W1 := ((Below.refl _ _).alloc (Nat.le_refl _) _).trans (b1.mono (by simp))
      clear b1 C1
      go_wp2
      exact bodyPost_ret (v := faultV 3 0) (by simp [results, Try.results21, faultV, go_sem, l0, a0, a1]) rfl ⟨rfl, by repeat (first | exact B1 | refine Below.setCell ?_ (by simp) _ | refine Below.alloc ?_ (by have := B1.size; simp; omega) _)⟩
    · by_cases hhi : 1000000 < n
      · rw [if_pos (Or.inr hhi)]
        go_enter Try.func21, Try.ntmps21
        go_wp2_with fail
        refine (C1.out _).mono ?_
        rintro e W1 ⟨rfl, b1⟩
        obtain ⟨l0, a0, a1, f0, f1⟩ := (FBox.new w 0 0 23).below b1 (by simp)
        have B1 : Below w.heap.size w W1 := ((Below.refl _ _).alloc (Nat.le_refl _) _).trans (b1.mono (by simp))
        clear b1 C1
        go_wp2
        exact bodyPost_ret (v := faultV 3 0) (by simp [results, Try.results21, faultV, go_sem, l0, a0, a1]) rfl ⟨rfl, by repeat (first | exact B1 | refine Below.setCell ?_ (by simp) _ | refine Below.alloc ?_ (by have := B1.size; simp; omega) _)⟩
      · rw [if_neg (by omega)]
        go_enter Try.func21, Try.ntmps21
        go_wp2_with fail
        refine (C1.out _).mono ?_
        rintro e W1 ⟨rfl, b1⟩
        obtain ⟨l0, a0, a1, f0, f1⟩ := (FBox.new w 0 0 23).below b1 (by simp)
        have B1 : Below w.heap.size w W1 := ((Below.refl _ _).alloc (Nat.le_refl _) _).trans (b1.mono (by simp))
        clear b1 C1
        go_wp2
        exact bodyPost_ret (v := faultV 0 0) (by simp [results, Try.results21, faultV, go_sem, l0, a0, a1]) rfl ⟨rfl, by repeat (first | exact B1 | refine Below.setCell ?_ (by simp) _ | refine Below.alloc ?_ (by have := B1.size; simp; omega) _)⟩
  · have e1 : ∀ n lo, rfC s n lo = 3 := by intro n lo; unfold rfC; rw [if_neg hs]
    have e2 : ∀ n lo, rfI s n lo = -1 := by intro n lo; unfold rfI; rw [if_neg hs]
    rw [e1, e2] at C1; rw [e1, e2]
    clear e1 e2 hs
    go_enter Try.func21, Try.ntmps21
    go_wp2_with fail
    refine (C1.out _).mono ?_
    rintro e W1 ⟨rfl, b1⟩
    obtain ⟨l0, a0, a1, f0, f1⟩ := (FBox.new w 0 0 23).below b1 (by simp)
    have B1 : Below w.heap.size w W1 := ((Below.refl _ _).alloc (Nat.le_refl _) _).trans (b1.mono (by simp))
    clear b1 C1
    go_wp2
    exact bodyPost_ret (v := faultV 3 (-1)) (by simp [results, Try.results21, faultV, go_sem, l0, a0, a1]) rfl ⟨rfl, by repeat (first | exact B1 | refine Below.setCell ?_ (by simp) _ | refine Below.alloc ?_ (by have := B1.size; simp; omega) _)⟩

set_option maxHeartbeats 800000 in
theorem validSeed_any (s n lo : Int) (w : World) :
    Calls Try.prog 10 #[.int .i64 s, .int .i64 n, .int .i64 lo] w (CK (rfC s n lo) (rfI s n lo) w) := by
  by_cases hs : sd s = true
  · have e2 : ∀ n lo, rfI s n lo = 0 := by intro n lo; unfold rfI; rw [if_pos hs]
    have e3 : rfC s n lo = if n < lo ∨ 1000000 < n then 3 else 0 := by unfold rfC; rw [if_pos hs]
    obtain ⟨hs0, hs1⟩ := sd_iff.1 hs
    rw [e3, e2]
    clear e2 e3 hs
    by_cases hlo : n < lo
    · rw [if_pos (Or.inl hlo)]
      go_enter Try.func10, Try.ntmps10
      go_wp2_with fail
      refine (newFault_any _ _ _).mono ?_
      rintro e W1 ⟨rfl, b1⟩
      obtain ⟨l0, a0, a1, f0, f1⟩ := (FBox.new w 0 0 23).below b1 (by simp)
      have B1 : Below w.heap.size w W1 := ((Below.refl _ _).alloc (Nat.le_refl _) _).trans (b1.mono (by simp))
      clear b1
      go_wp2
      exact bodyPost_ret (v := faultV 3 0) (by simp [results, Try.results10, faultV, go_sem, l0, a0, a1]) rfl ⟨rfl, by repeat (first | exact B1 | refine Below.setCell ?_ (by simp) _ | refine Below.alloc ?_ (by have := B1.size; simp; omega) _)⟩
    · by_cases hhi : 1000000 < n
      · rw [if_pos (Or.inr hhi)]
        go_enter Try.func10, Try.ntmps10
        go_wp2_with fail
        refine (newFault_any _ _ _).mono ?_
        rintro e W1 ⟨rfl, b1⟩
        obtain ⟨l0, a0, a1, f0, f1⟩ := (FBox.new w 0 0 23).below b1 (by simp)
        have B1 : Below w.heap.size w W1 := ((Below.refl _ _).alloc (Nat.le_refl _) _).trans (b1.mono (by simp))
        clear b1
        go_wp2
        exact bodyPost_ret (v := faultV 3 0) (by simp [results, Try.results10, faultV, go_sem, l0, a0, a1]) rfl ⟨rfl, by repeat (first | exact B1 | refine Below.setCell ?_ (by simp) _ | refine Below.alloc ?_ (by have := B1.size; simp; omega) _)⟩
      · rw [if_neg (by omega)]
        go_enter Try.func10, Try.ntmps10
        go_wp2
        exact bodyPost_ret (v := faultV 0 0) (by simp [results, Try.results10, faultV, go_sem]) rfl ⟨rfl, (Below.refl _ _).alloc (Nat.le_refl _) _⟩
  · have e1 : ∀ n lo, rfC s n lo = 3 := by intro n lo; unfold rfC; rw [if_neg hs]
    have e2 : ∀ n lo, rfI s n lo = -1 := by intro n lo; unfold rfI; rw [if_neg hs]
    rw [e1, e2]
    have hor := sd_not hs
    clear e1 e2 hs
    by_cases h0 : s < 0
    · clear hor
      go_enter Try.func10, Try.ntmps10
      go_wp2_with fail
      refine (newFault_any _ _ _).mono ?_
      rintro e W1 ⟨rfl, b1⟩
      obtain ⟨l0, a0, a1, f0, f1⟩ := (FBox.new w 0 0 23).below b1 (by simp)
      have B1 : Below w.heap.size w W1 := ((Below.refl _ _).alloc (Nat.le_refl _) _).trans (b1.mono (by simp))
      clear b1
      go_wp2
      exact bodyPost_ret (v := faultV 3 (-1)) (by simp [results, Try.results10, faultV, go_sem, l0, a0, a1]) rfl ⟨rfl, by repeat (first | exact B1 | refine Below.setCell ?_ (by simp) _ | refine Below.alloc ?_ (by have := B1.size; simp; omega) _)⟩
    · have h1 : 4294967296 ≤ s := by omega
      clear hor
      go_enter Try.func10, Try.ntmps10
      go_wp2_with fail
      refine (newFault_any _ _ _).mono ?_
      rintro e W1 ⟨rfl, b1⟩
      obtain ⟨l0, a0, a1, f0, f1⟩ := (FBox.new w 0 0 23).below b1 (by simp)
      have B1 : Below w.heap.size w W1 := ((Below.refl _ _).alloc (Nat.le_refl _) _).trans (b1.mono (by simp))
      clear b1
      go_wp2
      exact bodyPost_ret (v := faultV 3 (-1)) (by simp [results, Try.results10, faultV, go_sem, l0, a0, a1]) rfl ⟨rfl, by repeat (first | exact B1 | refine Below.setCell ?_ (by simp) _ | refine Below.alloc ?_ (by have := B1.size; simp; omega) _)⟩

set_option maxHeartbeats 400000 in
theorem nextSeed_any (s : Int) (w : World) (h0 : 0 ≤ s) (h1 : s < 4294967296) :
    Calls Try.prog 12 #[.int .i64 s] w fun e w' => e = .returned (.int .i64 (nx s)) ∧ w = w' := by
  go_enter Try.func12, Try.ntmps12
  go_wp2
  go_ret
  exact ⟨ret_int (nx_spell2 s), rfl⟩

set_option maxHeartbeats 400000 in
/-- A draw: the number and the next seed. -/
theorem draw_any (s n : Int) (w : World) (hn : 1 ≤ n) (hN : n ≤ 1000000) :
    Calls Try.prog 22 #[.int .u32 s, .int .i64 n] w fun e w' => e = .returned (.tuple #[.int .i64 (nx s / 65536 % n), .int .u32 (nx s)]) ∧ w = w' := by
  have hx := sd_iff.1 (nx_sd s)
  have C1 := Lib.hid (fun W => succ_any s W)
  generalize nx s = y at *
  go_enter Try.func22, Try.ntmps22
  go_wp2_with fail
  refine (C1.out _).mono ?_
  rintro e W1 ⟨rfl, rfl⟩
  go_wp2
  go_ret2
  exact ⟨rfl, rfl⟩

end Go.Proofs.Ytiknheoeldboaaa
