/- Equality of two slices of strings (the checker's and the library's), and the prefix test. Conditions: the slices' cells lie in memory as they read. -/
import Derived.Test.YtmjpcpnjppmnkaaDoorPathRefSplit
import Derived.RegionTactic
namespace Go.Proofs.YtmjpcpnjppmnkaaDoor
open Go.RowKit

theorem list_eq_getD {xs ys : List ByteArray} (hl : xs.length = ys.length) (h : ∀ j, j < xs.length → xs.getD j ByteArray.empty = ys.getD j ByteArray.empty) : xs = ys := by
  apply List.ext_getElem hl
  intro j h1 h2
  have := h j h1
  rwa [getD_eq h1, getD_eq h2] at this
theorem list_ne_getD {xs ys : List ByteArray} (k : Nat) (h : xs.getD k ByteArray.empty ≠ ys.getD k ByteArray.empty) : xs ≠ ys := fun e => h (by rw [e])

set_option maxHeartbeats 800000 in
theorem strings_any (v1 v2 : Value) (xs ys : List ByteArray) (w : World) (h1 : Strs w w.heap.size v1 xs) (h2 : Strs w w.heap.size v2 ys) :
    Calls Tryd.prog 10 #[v1, v2] w fun e w' => e = .returned (.bool (decide (xs = ys))) ∧ Below w.heap.size w w' := by
  obtain ⟨a1, c1, rfl, _, hl1, _, hx1⟩ := h1
  obtain ⟨a2, c2, rfl, _, hl2, _, hx2⟩ := h2
  by_cases hnm : xs.length = ys.length
  · have hnm1 : ((xs.length : Int) != (ys.length : Int)) = false := by rw [hnm]; simp
    have HN := Lib.hid hnm
    clear hnm
    go_enter Tryd.func10, Tryd.ntmps10
    go_wp2
    go_outline
    go_loopg [5] xs.length (fun g i wr => ∃ k q : Nat, k ≤ xs.length ∧ xs.length - k ≤ g ∧ i = .int .i64 k ∧ wr = w.drewN q ∧ Aside (∀ j, j < k → xs.getD j ByteArray.empty = ys.getD j ByteArray.empty))
    case atStart => exact ⟨0, 0, Nat.zero_le _, by omega, rfl, rfl, fun j hj => absurd hj (Nat.not_lt_zero _)⟩
    case round =>
      obtain ⟨k, q, hk, hg, rfl, rfl, A⟩ := hrel
      by_cases hlt : k < xs.length
      · have hltz : (k : Int) < (xs.length : Int) := by omega
        have hlt2 : k < ys.length := by have := HN.out; omega
        obtain ⟨b1, o1, rfl, hb1, hj1⟩ := hx1 (by omega)
        obtain ⟨b2, o2, rfl, hb2, hj2⟩ := hx2 (by omega)
        have g1 : w.cell? ⟨b1, o1 + k, none⟩ = some (.string (xs.getD k ByteArray.empty)) := hj1 k hlt
        have g2 : w.cell? ⟨b2, o2 + k, none⟩ = some (.string (ys.getD k ByteArray.empty)) := hj2 k hlt2
        clear hx1 hx2 hj1 hj2
        generalize hxk : xs.getD k ByteArray.empty = x at g1
        generalize hyk : ys.getD k ByteArray.empty = y at g2
        have B : Aside (xs.getD k ByteArray.empty = x ∧ ys.getD k ByteArray.empty = y) := ⟨hxk, hyk⟩
        clear hxk hyk
        by_cases hxy : x = y
        · subst hxy
          go_wp2_with fail
          go_region
          go_wp2
          go_roundg (xs.length - (k + 1))
          case measure => omega
          case rel =>
            refine ⟨k + 1, q + 1, by omega, by omega, by go_num, rfl, (show Aside _ from fun j hj => ?_)⟩
            by_cases e : j = k
            · subst e
              rw [B.out.1, B.out.2]
            · exact A.out j (by omega)
        · have hxy' : (x.toList == y.toList) = false := (Lib.bytes_beq_false_iff _ _).2 hxy
          have hxy2 : (x.toList != y.toList) = true := by rw [bne, hxy']; rfl
          go_wp2_with fail
          go_region
          go_wp2
          go_ret
          refine ⟨ret_bool (decide_eq_false (list_ne_getD k (by rw [B.out.1, B.out.2]; exact hxy))).symm, ?_⟩
          exact below_drewN (Below.refl _ _) (q + 1)
      · have hltz : ¬ (k : Int) < (xs.length : Int) := by omega
        have e : k = xs.length := by omega
        have E := Lib.hid e
        clear e hx1 hx2
        go_wp2
        go_ret
        exact ⟨ret_bool (decide_eq_true (list_eq_getD HN.out fun j hj => A.out j (by have := E.out; omega))).symm, below_drewN (Below.refl _ _) q⟩
  · have hnm1 : ((xs.length : Int) != (ys.length : Int)) = true := by simp; omega
    have HN := Lib.hid hnm
    clear hx1 hx2 hnm
    go_enter Tryd.func10, Tryd.ntmps10
    go_wp2
    go_ret
    exact ⟨ret_bool (decide_eq_false (fun e => HN.out (by rw [e]))).symm, Below.refl _ _⟩

end Go.Proofs.YtmjpcpnjppmnkaaDoor
