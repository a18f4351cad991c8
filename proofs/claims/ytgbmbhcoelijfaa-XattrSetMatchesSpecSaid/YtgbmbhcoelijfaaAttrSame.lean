/- The checker's equality at two slices that read as the same attributes, and as the same strings. Conditions: the slices' cells lie in memory as they read. -/
import Derived.Test.YtgbmbhcoelijfaaAttrSlice
import Derived.Test.YtgbmbhcoelijfaaPathComps
import Derived.Deep.LoopGhost
import Derived.BigQuiet
namespace Go.Proofs.Ytgbmbhcoelijfaa
open Go.RowKit

set_option maxHeartbeats 800000 in
theorem attrsSame_any (v1 v2 : Value) (xs : List Attr) (w : World) (B1 B2 : Nat) (h1 : Ats w B1 v1 xs) (h2 : Ats w B2 v2 xs) :
    Calls Try.prog 18 #[v1, v2] w fun e w' => e = .returned (.bool true) ∧ ∃ q, w' = w.drewN q := by
  obtain ⟨a1, c1, rfl, _, hl, _, hx1⟩ := h1
  obtain ⟨a2, c2, rfl, _, _, _, hx2⟩ := h2
  have HX1 := Lib.hid hx1
  have HX2 := Lib.hid hx2
  clear hx1 hx2
  go_enter Try.func18, Try.ntmps18
  go_wp2
  go_loopg [5] xs.length (fun gg s5 wr => ∃ k q : Nat, k ≤ xs.length ∧ xs.length - k ≤ gg ∧ s5 = .int .i64 k ∧ wr = w.drewN q)
  case atStart => exact ⟨0, 0, by omega, by omega, rfl, rfl⟩
  case round =>
    obtain ⟨k, q, hk, hg, rfl, rfl⟩ := hrel
    by_cases hlt : k < xs.length
    · have hltz : (k : Int) < (xs.length : Int) := by omega
      have hi0 : (0 : Int) ≤ (k : Int) := Int.natCast_nonneg _
      obtain ⟨b1, o1, rfl, _, hj1⟩ := HX1.out (by omega)
      obtain ⟨b2, o2, rfl, _, hj2⟩ := HX2.out (by omega)
      obtain ⟨g0, g1⟩ := hj1 k hlt
      obtain ⟨d0, d1⟩ := hj2 k hlt
      clear hj1 hj2
      generalize xs.getD k A0 = y at *
      obtain ⟨u, a⟩ := y
      simp only at g0 g1 d0 d1
      go_wp2_with fail
      go_quiet (fail)
      go_wp2_with fail
      go_roundg (xs.length - (k + 1))
      case measure => omega
      case rel => exact ⟨k + 1, _, by omega, by omega, by go_num, rfl⟩
    · have hltz : ¬ (k : Int) < (xs.length : Int) := by omega
      go_wp2_with fail
      go_ret
      exact ⟨rfl, _, rfl⟩

theorem Strs.drewN {w : World} {B : Nat} {v : Value} {xs : List ByteArray} (h : Strs w B v xs) (q : Nat) : Strs (w.drewN q) B v xs := h
theorem Strs.up {w w' : World} {v : Value} {xs : List ByteArray} (h : Strs w w.heap.size v xs) (hb : Below w.heap.size w w') : Strs w' w'.heap.size v xs :=
  (h.below hb).more hb.size
theorem Strs.form {w : World} {B n : Nat} {v : Value} {xs : List ByteArray} (h : Strs w B v xs) (hn : xs.length = n) : ∃ a c, v = .slice a n c ∧ n ≤ c := by
  subst hn
  obtain ⟨a, c, hv, hc, _⟩ := h
  exact ⟨a, c, hv, hc⟩
theorem Strs.none_ (w : World) (B : Nat) : Strs w B (.slice none 0 0) [] :=
  ⟨none, 0, rfl, by simp, by simp, by simp, fun h => absurd h (by simp)⟩

set_option maxHeartbeats 800000 in
theorem strsSame_any (v1 v2 : Value) (xs : List ByteArray) (w : World) (B1 B2 : Nat) (h1 : Strs w B1 v1 xs) (h2 : Strs w B2 v2 xs) :
    Calls Try.prog 22 #[v1, v2] w fun e w' => e = .returned (.bool true) ∧ ∃ q, w' = w.drewN q := by
  obtain ⟨a1, c1, rfl, _, hl, _, hx1⟩ := h1
  obtain ⟨a2, c2, rfl, _, _, _, hx2⟩ := h2
  have HX1 := Lib.hid hx1
  have HX2 := Lib.hid hx2
  clear hx1 hx2
  go_enter Try.func22, Try.ntmps22
  go_wp2
  go_loopg [5] xs.length (fun gg s5 wr => ∃ k q : Nat, k ≤ xs.length ∧ xs.length - k ≤ gg ∧ s5 = .int .i64 k ∧ wr = w.drewN q)
  case atStart => exact ⟨0, 0, by omega, by omega, rfl, rfl⟩
  case round =>
    obtain ⟨k, q, hk, hg, rfl, rfl⟩ := hrel
    by_cases hlt : k < xs.length
    · have hltz : (k : Int) < (xs.length : Int) := by omega
      have hi0 : (0 : Int) ≤ (k : Int) := Int.natCast_nonneg _
      obtain ⟨b1, o1, rfl, _, hj1⟩ := HX1.out (by omega)
      obtain ⟨b2, o2, rfl, _, hj2⟩ := HX2.out (by omega)
      have g0 := hj1 k hlt
      have d0 := hj2 k hlt
      clear hj1 hj2
      generalize xs.getD k ByteArray.empty = y at *
      go_wp2_with fail
      go_quiet (fail)
      go_wp2_with fail
      go_roundg (xs.length - (k + 1))
      case measure => omega
      case rel => exact ⟨k + 1, _, by omega, by omega, by go_num, rfl⟩
    · have hltz : ¬ (k : Int) < (xs.length : Int) := by omega
      go_wp2_with fail
      go_ret
      exact ⟨rfl, _, rfl⟩

end Go.Proofs.Ytgbmbhcoelijfaa
