/- The checker's comparisons say true of two slices that read as the same entries, and as the same integers. Conditions: the slices' cells lie in memory as they read. -/
import Derived.Test.YtbmcfhojhngpkaaAclSlice
import Derived.Test.YtbmcfhojhngpkaaAclInts
import Derived.Deep.QuietTactic
import Derived.BigQuiet
namespace Go.Proofs.Ytbmcfhojhngpkaa
open Go.RowKit

set_option maxHeartbeats 800000 in
theorem aclsSame_any (v1 v2 : Value) (xs : List Ent) (w : World) (B1 B2 : Nat) (h1 : Acls w B1 v1 xs) (h2 : Acls w B2 v2 xs) :
    Calls Try.prog 17 #[v1, v2] w fun e w' => e = .returned (.bool true) ∧ ∃ q, w' = w.drewN q := by
  obtain ⟨a1, c1, rfl, _, hl, _, hx1⟩ := h1
  obtain ⟨a2, c2, rfl, _, _, _, hx2⟩ := h2
  have HX1 := Lib.hid hx1
  have HX2 := Lib.hid hx2
  clear hx1 hx2
  go_enter Try.func17, Try.ntmps17
  go_wp2
  go_loopg [5] xs.length (fun gg s5 wr => ∃ k q : Nat, k ≤ xs.length ∧ xs.length - k ≤ gg ∧ s5 = .int .i64 k ∧ wr = w.drewN q)
  case atStart => exact ⟨0, 0, by omega, by omega, rfl, rfl⟩
  case round =>
    obtain ⟨k, q, hk, hg, rfl, rfl⟩ := hrel
    by_cases hlt : k < xs.length
    · have hltz : (k : Int) < (xs.length : Int) := by omega
      have hi0 : (0 : Int) ≤ (k : Int) := Int.natCast_nonneg _
      obtain ⟨b1, o1, rfl, _, hj1⟩ := HX1.out (by omega)
      obtain ⟨b2, o2, rfl, _, hj2⟩ := HX2.out (by omega)
      obtain ⟨g0, g1, g2⟩ := hj1 k hlt
      obtain ⟨d0, d1, d2⟩ := hj2 k hlt
      clear hj1 hj2
      generalize xs.getD k E0 = y at *
      obtain ⟨u, a, d⟩ := y
      simp only at g0 g1 g2 d0 d1 d2
      go_wp2_with fail
      go_quiet (fail)
      go_wp2_with fail
      go_roundg (xs.length - (k + 1))
      case measure => omega
      case rel => exact ⟨k + 1, _, by omega, by omega, by go_num, rfl⟩
    · have hltz : ¬ (k : Int) < (xs.length : Int) := by omega
      go_wp2_with fail
      go_ret
      exact ⟨rfl, _, rfl⟩

set_option maxHeartbeats 800000 in
theorem intsSame_any (v1 v2 : Value) (xs : List Int) (w : World) (B1 B2 : Nat) (h1 : Ints w B1 v1 xs) (h2 : Ints w B2 v2 xs) :
    Calls Try.prog 19 #[v1, v2] w fun e w' => e = .returned (.bool true) ∧ ∃ q, w' = w.drewN q := by
  obtain ⟨a1, c1, rfl, _, hl, hx1⟩ := h1
  obtain ⟨a2, c2, rfl, _, _, hx2⟩ := h2
  have HX1 := Lib.hid hx1
  have HX2 := Lib.hid hx2
  clear hx1 hx2
  go_enter Try.func19, Try.ntmps19
  go_wp2
  go_loopg [5] xs.length (fun gg s5 wr => ∃ k q : Nat, k ≤ xs.length ∧ xs.length - k ≤ gg ∧ s5 = .int .i64 k ∧ wr = w.drewN q)
  case atStart => exact ⟨0, 0, by omega, by omega, rfl, rfl⟩
  case round =>
    obtain ⟨k, q, hk, hg, rfl, rfl⟩ := hrel
    by_cases hlt : k < xs.length
    · have hltz : (k : Int) < (xs.length : Int) := by omega
      have hi0 : (0 : Int) ≤ (k : Int) := Int.natCast_nonneg _
      obtain ⟨b1, o1, rfl, _, hj1⟩ := HX1.out (by omega)
      obtain ⟨b2, o2, rfl, _, hj2⟩ := HX2.out (by omega)
      have g0 := hj1 k hlt
      have d0 := hj2 k hlt
      clear hj1 hj2
      generalize xs.getD k 0 = y at *
      go_wp2_with fail
      go_quiet (fail)
      go_wp2_with fail
      go_roundg (xs.length - (k + 1))
      case measure => omega
      case rel => exact ⟨k + 1, _, by omega, by omega, by go_num, rfl⟩
    · have hltz : ¬ (k : Int) < (xs.length : Int) := by omega
      go_wp2_with fail
      go_ret
      exact ⟨rfl, _, rfl⟩

end Go.Proofs.Ytbmcfhojhngpkaa
