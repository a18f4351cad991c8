/- Plain facts on the generator of numbers: its step, the step back, many steps at once, its low bits. No condition beyond those that each theorem states. -/
import Derived.Test.YtiknheoeldboaaaKit

set_option linter.all false
namespace Go.Proofs.Ytiknheoeldboaaa

/-- The step, and the step back. -/
def nx (s : Int) : Int := (1664525 * s + 1013904223) % 4294967296
def pv (s : Int) : Int := ((s - 1013904223) % 4294967296 * 4276115653) % 4294967296
/-- A number that is a seed. -/
def sd (s : Int) : Bool := decide (0 ≤ s) && decide (s < 4294967296)
theorem sd_iff {s : Int} : sd s = true ↔ 0 ≤ s ∧ s < 4294967296 := by simp [sd]
theorem sd_not {s : Int} (h : ¬ sd s = true) : s < 0 ∨ 4294967296 ≤ s := by rw [sd_iff] at h; omega

theorem nx_sd (s : Int) : sd (nx s) = true := sd_iff.2 (by unfold nx; omega)
theorem pv_sd (s : Int) : sd (pv s) = true := sd_iff.2 (by unfold pv; omega)
theorem nx_pv {s : Int} (h : sd s = true) : nx (pv s) = s := by
  rw [sd_iff] at h
  unfold nx pv
  generalize hx : s - 1013904223 = x
  have e : (1664525 * (x % 4294967296 * 4276115653 % 4294967296) + 1013904223) % 4294967296 = ((1664525 * 4276115653) * x + 1013904223) % 4294967296 := by omega
  rw [e]
  omega

/-- The fault of a seed and a count that is at least lo. -/
def rfC (s n lo : Int) : Int := if sd s = true then (if n < lo ∨ 1000000 < n then 3 else 0) else 3
def rfI (s _n _lo : Int) : Int := if sd s = true then 0 else -1

/-- Many steps. -/
def sk : Nat → Int → Int
  | 0, s => s
  | k + 1, s => sk k (nx s)
theorem sk_add (a b : Nat) (s : Int) : sk (a + b) s = sk b (sk a s) := by
  induction a generalizing s with
  | zero => simp [sk]
  | succ a ih => rw [Nat.succ_add]; exact ih _
theorem sk_sd {s : Int} (h : sd s = true) (k : Nat) : sd (sk k s) = true := by
  induction k generalizing s with
  | zero => exact h
  | succ k ih => exact ih (nx_sd s)

end Go.Proofs.Ytiknheoeldboaaa
