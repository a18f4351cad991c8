/- The program's Next, Prev and Intn, and the laws' own example. No condition. -/
import Derived.Test.YtiknheoeldboaaaRngSeed

set_option linter.all false
namespace Go.Proofs.Ytiknheoeldboaaa
open Go.RowKit

def nxV (s : Int) : Int := if sd s = true then nx s else 0
def pvV (s : Int) : Int := if sd s = true then pv s else 0
def NX (v c i : Int) (w : World) (e : Ending) (w' : World) : Prop := e = .returned (.tuple #[.int .i64 v, .agg #[.int .i64 c, .int .i64 i]]) ∧ Below w.heap.size w w'

theorem pv_spell (s : Int) : (s - 1013904223) % 4294967296 * 4276115653 % 4294967296 = pv s := rfl

set_option maxHeartbeats 1600000 in
theorem next_any (s : Int) (w : World) :
    Calls Try.prog 8 #[.int .i64 s] w (NX (nxV s) (rfC s 0 0) (rfI s 0 0) w) := by
  have C1 := Lib.hid (fun W => checkSeed_any s W)
  have C2 := Lib.hid (fun W => succ_any s W)
  unfold CK at C1
  by_cases hs : sd s = true
  · have e1 : rfC s 0 0 = 0 := by unfold rfC; rw [if_pos hs, if_neg (by omega)]
    have e2 : rfI s 0 0 = 0 := by unfold rfI; rw [if_pos hs]
    have e3 : nxV s = nx s := by unfold nxV; rw [if_pos hs]
    obtain ⟨hs0, hs1⟩ := sd_iff.1 hs
    have hy := sd_iff.1 (nx_sd s)
    rw [e1, e2] at C1; rw [e1, e2, e3]
    clear e1 e2 e3 hs
    generalize nx s = y at *
    go_enter Try.func8, Try.ntmps8
    go_wp2_with fail
    refine (C1.out _).mono ?_
    rintro e W1 ⟨rfl, b1⟩
    obtain ⟨l0, a0, a1, f0, f1⟩ := (FBox.new w 0 0 23).below b1 (by simp)
    have B1 : Below w.heap.size w W1 := ((Below.refl _ _).alloc (Nat.le_refl _) _).trans (b1.mono (by simp))
    clear b1 C1
    go_wp2_with fail
    refine (C2.out _).mono ?_
    rintro e W2 ⟨rfl, rfl⟩
    go_wp2
    exact bodyPost_ret (v := .tuple #[.int .i64 y, faultV 0 0]) (by simp [results, Try.results8, faultV, go_sem, l0, a0, a1]) rfl ⟨rfl, by repeat (first | exact B1 | refine Below.setCell ?_ (by simp) _ | refine Below.alloc ?_ (by have := B1.size; simp; omega) _)⟩
  · have e1 : rfC s 0 0 = 3 := by unfold rfC; rw [if_neg hs]
    have e2 : rfI s 0 0 = -1 := by unfold rfI; rw [if_neg hs]
    have e3 : nxV s = 0 := by unfold nxV; rw [if_neg hs]
    rw [e1, e2] at C1; rw [e1, e2, e3]
    clear e1 e2 e3 hs C2
    go_enter Try.func8, Try.ntmps8
    go_wp2_with fail
    refine (C1.out _).mono ?_
    rintro e W1 ⟨rfl, b1⟩
    obtain ⟨l0, a0, a1, f0, f1⟩ := (FBox.new w 0 0 23).below b1 (by simp)
    have B1 : Below w.heap.size w W1 := ((Below.refl _ _).alloc (Nat.le_refl _) _).trans (b1.mono (by simp))
    clear b1 C1
    go_wp2
    go_region
    all_goals
      go_wp2
      exact bodyPost_ret (v := .tuple #[.int .i64 0, faultV 3 (-1)]) (by simp [results, Try.results8, faultV, go_sem, l0, a0, a1]) rfl ⟨rfl, by repeat (first | exact B1 | refine Below.setCell ?_ (by simp) _ | refine Below.alloc ?_ (by have := B1.size; simp; omega) _ | refine Below.drew ?_)⟩

set_option maxHeartbeats 1600000 in
theorem prev_any (s : Int) (w : World) :
    Calls Try.prog 9 #[.int .i64 s] w (NX (pvV s) (rfC s 0 0) (rfI s 0 0) w) := by
  have C1 := Lib.hid (fun W => checkSeed_any s W)
  unfold CK at C1
  by_cases hs : sd s = true
  · have e1 : rfC s 0 0 = 0 := by unfold rfC; rw [if_pos hs, if_neg (by omega)]
    have e2 : rfI s 0 0 = 0 := by unfold rfI; rw [if_pos hs]
    have e3 : pvV s = pv s := by unfold pvV; rw [if_pos hs]
    obtain ⟨hs0, hs1⟩ := sd_iff.1 hs
    have hy := sd_iff.1 (pv_sd s)
    rw [e1, e2] at C1; rw [e1, e2, e3]
    clear e1 e2 e3 hs
    have Y := Lib.hid (pv_spell s)
    generalize pv s = y at *
    go_enter Try.func9, Try.ntmps9
    go_wp2_with fail
    refine (C1.out _).mono ?_
    rintro e W1 ⟨rfl, b1⟩
    obtain ⟨l0, a0, a1, f0, f1⟩ := (FBox.new w 0 0 23).below b1 (by simp)
    have B1 : Below w.heap.size w W1 := ((Below.refl _ _).alloc (Nat.le_refl _) _).trans (b1.mono (by simp))
    clear b1 C1
    go_wp2
    rw [Y.out]
    exact bodyPost_ret (v := .tuple #[.int .i64 y, faultV 0 0]) (by simp [results, Try.results9, faultV, go_sem, l0, a0, a1]) rfl ⟨rfl, by repeat (first | exact B1 | refine Below.setCell ?_ (by simp) _ | refine Below.alloc ?_ (by have := B1.size; simp; omega) _)⟩
  · have e1 : rfC s 0 0 = 3 := by unfold rfC; rw [if_neg hs]
    have e2 : rfI s 0 0 = -1 := by unfold rfI; rw [if_neg hs]
    have e3 : pvV s = 0 := by unfold pvV; rw [if_neg hs]
    rw [e1, e2] at C1; rw [e1, e2, e3]
    clear e1 e2 e3 hs
    go_enter Try.func9, Try.ntmps9
    go_wp2_with fail
    refine (C1.out _).mono ?_
    rintro e W1 ⟨rfl, b1⟩
    obtain ⟨l0, a0, a1, f0, f1⟩ := (FBox.new w 0 0 23).below b1 (by simp)
    have B1 : Below w.heap.size w W1 := ((Below.refl _ _).alloc (Nat.le_refl _) _).trans (b1.mono (by simp))
    clear b1 C1
    go_wp2
    go_region
    all_goals
      go_wp2
      exact bodyPost_ret (v := .tuple #[.int .i64 0, faultV 3 (-1)]) (by simp [results, Try.results9, faultV, go_sem, l0, a0, a1]) rfl ⟨rfl, by repeat (first | exact B1 | refine Below.setCell ?_ (by simp) _ | refine Below.alloc ?_ (by have := B1.size; simp; omega) _ | refine Below.drew ?_)⟩

set_option maxHeartbeats 1600000 in
theorem rngExample_any (w : World) :
    Calls Try.prog 11 #[] w fun e w' => e = .returned (.bool true) ∧ Below w.heap.size w w' := by
  have C1 := Lib.hid (fun W => next_any 0 W)
  unfold NX at C1
  have e1 : rfC 0 0 0 = 0 := by decide +kernel
  have e2 : rfI 0 0 0 = 0 := by decide +kernel
  have e3 : nxV 0 = 1013904223 := by decide +kernel
  rw [e1, e2, e3] at C1
  clear e1 e2 e3
  go_enter Try.func11, Try.ntmps11
  go_wp2_with fail
  refine (C1.out _).mono ?_
  rintro e W1 ⟨rfl, b1⟩
  go_wp2
  go_ret
  exact ⟨rfl, b1.alloc b1.size _⟩

end Go.Proofs.Ytiknheoeldboaaa
