/- The reference's prefix test at every two slices of strings. Conditions: the slices' cells lie in memory as they read. -/
import Derived.Test.YtmjpcpnjppmnkaaDoorPathContains
import Derived.Deep.QuietTactic
import Derived.BigQuiet
namespace Go.Proofs.YtmjpcpnjppmnkaaDoor
open Go.RowKit

theorem pre_all {xs ys : List ByteArray} (hl : xs.length ≤ ys.length) (h : ∀ j, j < xs.length → xs.getD j ByteArray.empty = ys.getD j ByteArray.empty) : true = pre xs ys := by
  unfold pre
  refine (decide_eq_true ⟨hl, ?_⟩).symm
  apply List.ext_getElem
  · simp; omega
  · intro j h1 h2
    have := h j h1
    rw [getD_eq h1, getD_eq (by omega)] at this
    rw [this, List.getElem_take]
theorem pre_short {xs ys : List ByteArray} (h : ¬ xs.length ≤ ys.length) : false = pre xs ys := by
  unfold pre; exact (decide_eq_false (fun e => h e.1)).symm
theorem pre_ne {xs ys : List ByteArray} (k : Nat) (hk : k < xs.length) (h : xs.getD k ByteArray.empty ≠ ys.getD k ByteArray.empty) : false = pre xs ys := by
  unfold pre
  refine (decide_eq_false (fun e => h ?_)).symm
  have e2 := congrArg (fun l : List ByteArray => l.getD k ByteArray.empty) e.2
  show xs.getD k ByteArray.empty = ys.getD k ByteArray.empty
  rw [show xs.getD k ByteArray.empty = (ys.take xs.length).getD k ByteArray.empty from e2, List.getD_eq_getElem?_getD, List.getElem?_take_of_lt hk, List.getD_eq_getElem?_getD]

set_option maxHeartbeats 800000 in
theorem hasPrefix_any (v1 v2 : Value) (xs ys : List ByteArray) (w : World) (h1 : Strs w w.heap.size v1 xs) (h2 : Strs w w.heap.size v2 ys) :
    Calls Tryd.prog 15 #[v1, v2] w fun e w' => e = .returned (.bool (pre xs ys)) ∧ Below w.heap.size w w' := by
  obtain ⟨a1, c1, rfl, _, hl1, _, hx1⟩ := h1
  obtain ⟨a2, c2, rfl, _, hl2, _, hx2⟩ := h2
  go_enter Tryd.func15, Tryd.ntmps15
  go_wp2
  go_loopg [5] xs.length (fun g i wr => ∃ k q : Nat, k ≤ xs.length ∧ k ≤ ys.length ∧ xs.length - k ≤ g ∧ i = .int .i64 k ∧ wr = w.drewN q ∧ Aside (∀ j, j < k → xs.getD j ByteArray.empty = ys.getD j ByteArray.empty))
  case atStart => exact ⟨0, 0, Nat.zero_le _, Nat.zero_le _, by omega, rfl, rfl, fun j hj => absurd hj (Nat.not_lt_zero _)⟩
  case round =>
    obtain ⟨k, q, hk, hky, hg, rfl, rfl, A⟩ := hrel
    by_cases hlt : k < xs.length
    · have hltz : (k : Int) < (xs.length : Int) := by omega
      by_cases hlt2 : k < ys.length
      · have hge : decide ((ys.length : Int) ≤ (k : Int)) = false := by simp; omega
        have hge2 : ¬ (ys.length : Int) ≤ (k : Int) := by omega
        obtain ⟨b1, o1, rfl, hb1, hj1⟩ := hx1 (by omega)
        obtain ⟨b2, o2, rfl, hb2, hj2⟩ := hx2 (by omega)
        have g1 : w.cell? ⟨b1, o1 + k, none⟩ = some (.string (xs.getD k ByteArray.empty)) := hj1 k hlt
        have g2 : w.cell? ⟨b2, o2 + k, none⟩ = some (.string (ys.getD k ByteArray.empty)) := hj2 k hlt2
        clear hx1 hx2 hj1 hj2
        generalize hxk : xs.getD k ByteArray.empty = x at g1
        generalize hyk : ys.getD k ByteArray.empty = y at g2
        have B : Aside (xs.getD k ByteArray.empty = x ∧ ys.getD k ByteArray.empty = y) := ⟨hxk, hyk⟩
        clear hxk hyk
        by_cases hxy : x = y
        · subst hxy
          go_wp2_with fail
          go_quiet (fail)
          go_wp2
          go_roundg (xs.length - (k + 1))
          case measure => omega
          case rel =>
            refine ⟨k + 1, _, by omega, by omega, by omega, by go_num, rfl, (show Aside _ from fun j hj => ?_)⟩
            by_cases e : j = k
            · subst e
              rw [B.out.1, B.out.2]
            · exact A.out j (by omega)
        · have hxy' : (x.toList == y.toList) = false := (Lib.bytes_beq_false_iff _ _).2 hxy
          have hxy2 : (x.toList != y.toList) = true := by rw [bne, hxy']; rfl
          go_wp2_with fail
          go_quiet (fail)
          go_wp2
          go_ret
          exact ⟨ret_bool (pre_ne k hlt (by rw [B.out.1, B.out.2]; exact hxy)), below_drewN (below_drewN (Below.refl _ _) _) _⟩
      · have hge2 : (ys.length : Int) ≤ (k : Int) := by omega
        have hge : decide ((ys.length : Int) ≤ (k : Int)) = true := by simp; omega
        clear hx1 hx2
        go_wp2_with fail
        go_quiet (fail)
        go_wp2
        go_ret
        exact ⟨ret_bool (pre_short (by omega)), below_drewN (below_drewN (Below.refl _ _) _) _⟩
    · have hltz : ¬ (k : Int) < (xs.length : Int) := by omega
      have e : k = xs.length := by omega
      have E := Lib.hid e
      clear e hx1 hx2
      go_wp2
      go_ret
      exact ⟨ret_bool (pre_all (by have := E.out; omega) fun j hj => A.out j (by have := E.out; omega)), below_drewN (Below.refl _ _) q⟩

end Go.Proofs.YtmjpcpnjppmnkaaDoor
