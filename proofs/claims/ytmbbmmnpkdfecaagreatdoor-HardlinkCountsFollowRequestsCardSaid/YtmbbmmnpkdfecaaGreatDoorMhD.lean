/- What a law of package memfs or of its neighbours needs, at the translation of this seat.
   Condition: as each theorem states; this text: IntsSame. -/
import Derived.Test.YtmbbmmnpkdfecaaGreatDoorMb1
import Derived.BigQuiet

set_option linter.all false

/- farshelfequal.Ints at two slices of the same ints. Conditions: as the theorem states. -/

set_option linter.all false
namespace Go.Proofs.YtmbbmmnpkdfecaaGreatDoor
open Go.RowKit

theorem drewN_oneQ (w : World) (b c : Nat) : (w.drewN b).drewN c = w.drewN (b + c) := by rw [World.drewN_drewN]
theorem drewN_moreQ (w : World) (a b c : Nat) : (w.drewN (a + b)).drewN c = w.drewN (a + (b + c)) := by
  rw [World.drewN_drewN, Nat.add_assoc]

theorem One.drewNQ {w : World} {n : Nat} {v : Value} (h : One w n v) (k : Nat) : One (w.drewN k) n v := ⟨h.lt, h.c0, h.f0⟩
set_option maxRecDepth 100000 in
set_option maxHeartbeats 1600000 in
/-- Two slices of the same ints. -/
theorem intsRows_any (b1 o1 c1 b2 o2 c2 n : Nat) (f : Nat → Int) (w : World) (hn : n ≤ 1000) (h1 : ∀ j, j < n → w.cell? ⟨b1, o1 + j, none⟩ = some (.int .i64 (f j))) (h2 : ∀ j, j < n → w.cell? ⟨b2, o2 + j, none⟩ = some (.int .i64 (f j))) :
    Calls Tryz.prog 28 #[.slice (some ⟨b1, o1, none⟩) n c1, .slice (some ⟨b2, o2, none⟩) n c2] w fun e w' => e = .returned (.bool true) ∧ ∃ q, w' = w.drewN q := by
  have HX1 := Lib.hid h1
  have HX2 := Lib.hid h2
  clear h1 h2
  go_enter Tryz.func28, Tryz.ntmps28
  go_wp2
  go_loopg [5] n (fun gg s5 wr => ∃ k q : Nat, k ≤ n ∧ n - k ≤ gg ∧ s5 = .int .i64 k ∧ wr = w.drewN q)
  case atStart => exact ⟨0, 0, by omega, by omega, rfl, rfl⟩
  case round =>
    obtain ⟨k, q, hk, hg, rfl, rfl⟩ := hrel
    by_cases hlt : k < n
    · have hltz : (k : Int) < (n : Int) := by omega
      have hi0 : (0 : Int) ≤ (k : Int) := Int.natCast_nonneg _
      have g0 := HX1.out k hlt
      have d0 := HX2.out k hlt
      generalize f k = y at *
      go_wp2_with fail
      go_quiet (fail)
      go_wp2_with fail
      go_roundg (n - (k + 1))
      case measure => omega
      case rel => exact ⟨k + 1, _, by omega, by omega, by go_num, rfl⟩
    · have hltz : ¬ (k : Int) < (n : Int) := by omega
      go_wp2_with fail
      go_ret
      exact ⟨rfl, _, rfl⟩

end Go.Proofs.YtmbbmmnpkdfecaaGreatDoor
