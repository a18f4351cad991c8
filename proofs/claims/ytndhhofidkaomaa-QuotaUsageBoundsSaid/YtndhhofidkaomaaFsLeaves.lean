/- Leaves of package fstree: isBetween, isUsed, checkFree, checkContents, cmp.Or. Conditions: the arguments' cells lie in memory as they read. -/
import Derived.Test.YtndhhofidkaomaaFsTree
import Derived.Test.YtndhhofidkaomaaFsFacts
import Derived.BigQuiet

set_option linter.all false
namespace Go.Proofs.Ytndhhofidkaomaa
open Go.RowKit

set_option maxHeartbeats 400000 in
theorem isBetween_any (n m : Int) (w : World) :
    Calls Try.prog 56 #[.int .i64 n, .int .i64 m] w fun e w' => e = .returned (.bool (decide (0 ≤ n ∧ n ≤ m))) ∧ w' = w := by
  go_enter Try.func56, Try.ntmps56
  go_wp2
  all_goals
    go_ret
    refine ⟨ret_bool ?_, rfl⟩
    first
      | (rw [decide_eq_decide]; omega)
      | (symm; rw [decide_eq_false_iff_not]; omega)
      | (rw [Bool.eq_iff_iff]; simp; omega)

theorem used_at {t : Tr} {i : Int} (h0 : 0 ≤ i) (h1 : i < t.length) : used t i = ((nod t i.toNat).k != 0) := by
  unfold used; rw [Bool.eq_iff_iff, decide_eq_true_iff, bne_iff_ne]
  exact ⟨fun h => h.2.2, fun h => ⟨h0, h1, h⟩⟩
theorem used_out {t : Tr} {i : Int} (h : ¬ (0 ≤ i ∧ i < t.length)) : used t i = false := by
  unfold used; rw [decide_eq_false_iff_not]; exact fun k => h ⟨k.1, k.2.1⟩
set_option maxHeartbeats 800000 in
theorem isUsed_any (a : Option Addr) (c : Nat) (t : Tr) (i : Int) (w : World) (h : Nods w w.heap.size a c t) :
    Calls Try.prog 52 #[.agg #[.slice a t.length c], .int .i64 i] w fun e w' => e = .returned (.bool (used t i)) ∧ Below w.heap.size w w' := by
  have hll := h.len
  by_cases h0 : 0 ≤ i
  · by_cases h1 : i < t.length
    · obtain ⟨b, o, ve, vd, va, vx, rfl, hb, hc, hs⟩ := h.one (j := i.toNat) (by omega)
      have g0 := hc.c0
      have HU := Lib.hid (used_at h0 h1)
      clear hc hs h
      obtain ⟨n, rfl⟩ := Int.eq_ofNat_of_zero_le h0
      simp only [Int.toNat_natCast] at g0 HU
      generalize (nod t n).k = k at *
      go_enter Try.func52, Try.ntmps52
      go_wp2
      go_ret
      exact ⟨ret_bool (by rw [HU.out]), (Below.refl _ _).alloc (Nat.le_refl _) _⟩
    · have HU := Lib.hid (used_out (t := t) (i := i) (fun k => h1 k.2))
      have hd : decide (i < (t.length : Int)) = false := by simpa using h1
      clear h
      go_enter Try.func52, Try.ntmps52
      go_wp2
      go_ret
      exact ⟨ret_bool (by rw [HU.out]), (Below.refl _ _).alloc (Nat.le_refl _) _⟩
  · have HU := Lib.hid (used_out (t := t) (i := i) (fun k => h0 k.1))
    have hd : decide (0 ≤ i) = false := by simpa using h0
    clear h
    go_enter Try.func52, Try.ntmps52
    go_wp2
    go_ret
    exact ⟨ret_bool (by rw [HU.out]), (Below.refl _ _).alloc (Nat.le_refl _) _⟩

set_option maxHeartbeats 400000 in
theorem or4_any (x0 x1 x2 x3 : Int) (n : Nat) (w : World) (hn : n < w.heap.size) (h0 : w.cell? ⟨n, 0, none⟩ = some (.int .i64 x0)) (h1 : w.cell? ⟨n, 1, none⟩ = some (.int .i64 x1)) (h2 : w.cell? ⟨n, 2, none⟩ = some (.int .i64 x2)) (h3 : w.cell? ⟨n, 3, none⟩ = some (.int .i64 x3)) :
    Calls Try.prog 42 #[.slice (some ⟨n, 0, none⟩) 4 4] w fun e w' => e = .returned (.int .i64 (or4 x0 x1 x2 x3)) ∧ w' = w := by
  have HX := Lib.hid (show ∀ k, k < 4 → w.cell? ⟨n, k, none⟩ = some (.int .i64 ([x0, x1, x2, x3].getD k 0)) from fun k hk => by
    match k, hk with
    | 0, _ => exact h0
    | 1, _ => exact h1
    | 2, _ => exact h2
    | 3, _ => exact h3)
  have HE := Lib.hid (show (∀ k, k < 4 → (∀ j, j < k → [x0, x1, x2, x3].getD j 0 = 0) → [x0, x1, x2, x3].getD k 0 ≠ 0 → or4 x0 x1 x2 x3 = [x0, x1, x2, x3].getD k 0) ∧ ((∀ j, j < 4 → [x0, x1, x2, x3].getD j 0 = 0) → or4 x0 x1 x2 x3 = 0) from by
    unfold or4
    refine ⟨fun k hk hA hN => ?_, fun hA => ?_⟩
    · match k, hk with
      | 0, _ => simp at hN; simp [hN]
      | 1, _ => have e0 := hA 0 (by omega); simp at hN e0; simp [hN, e0]
      | 2, _ => have e0 := hA 0 (by omega); have e1 := hA 1 (by omega); simp at hN e0 e1; simp [hN, e0, e1]
      | 3, _ => have e0 := hA 0 (by omega); have e1 := hA 1 (by omega); have e2 := hA 2 (by omega); simp at hN e0 e1 e2; simp [e0, e1, e2]
    · have e0 := hA 0 (by omega); have e1 := hA 1 (by omega); have e2 := hA 2 (by omega); have e3 := hA 3 (by omega)
      simp at e0 e1 e2 e3
      simp [e0, e1, e2, e3])
  clear h0 h1 h2 h3
  generalize or4 x0 x1 x2 x3 = r at *
  generalize [x0, x1, x2, x3] = l at *
  go_enter Try.func42, Try.ntmps42
  go_wp2
  go_loopg [5, 8] 4 (fun gg _ s8 wr => ∃ kk : Nat, kk ≤ 4 ∧ 4 - kk ≤ gg ∧ s8 = .int .i64 kk ∧ wr = w ∧ Aside (∀ j, j < kk → l.getD j 0 = 0))
  case atStart => exact ⟨0, by omega, by omega, rfl, rfl, fun j hj => absurd hj (Nat.not_lt_zero _)⟩
  case round =>
    obtain ⟨kk, hkk, hg, rfl, rfl, A⟩ := hrel
    by_cases hlt : kk < 4
    · have hltz : (kk : Int) < 4 := by omega
      have hcell := HX.out kk hlt
      generalize hy : l.getD kk 0 = y at hcell
      have Y := Lib.hid hy
      clear hy
      by_cases hy0 : y = 0
      · subst hy0
        go_wp2
        go_roundg (4 - (kk + 1))
        case measure => omega
        case rel =>
          refine ⟨kk + 1, by omega, by omega, by go_num, rfl, (show Aside _ from fun j hj => ?_)⟩
          by_cases e : j = kk
          · subst e; exact Y.out
          · exact A.out j (by omega)
      · have hy1 : (y != 0) = true := by simpa using hy0
        have HN := Lib.hid hy0
        clear hy0
        go_wp2
        go_ret
        exact ⟨ret_int (by rw [HE.out.1 kk hlt A.out (by rw [Y.out]; exact HN.out), Y.out]), rfl⟩
    · obtain rfl : kk = 4 := by omega
      go_wp2
      go_ret
      exact ⟨ret_int (HE.out.2 A.out).symm, rfl⟩

set_option maxHeartbeats 1600000 in
theorem checkFree_any (x : Nod) (ve vd va vx : Value) (w : World) (h : NodS w w.heap.size ve vd va vx x) :
    Calls Try.prog 41 #[.agg #[.int .i64 x.k, .int .i64 x.o, ve, vd, va, vx, .int .i64 x.q, .int .i64 x.v]] w fun e w' => e = .returned (.int .i64 (codeF x)) ∧ Below w.heap.size w w' := by
  obtain ⟨⟨ea, ec, rfl, hec, hel, _, _⟩, ⟨da, dc, rfl, hdc⟩, hdl, ⟨aa, acp, rfl, hacc, hacl, _, _⟩, ⟨xa, xc, rfl, hxc, hxl, _, _⟩, _, _, _, _⟩ := h
  have HC := Lib.hid (show codeF x = if x.es.length + x.dl + x.ac.length + x.xs.length = 0 ∧ x.o = 0 ∧ x.q = 0 ∧ x.v = 0 then 0 else 5 from rfl)
  generalize codeF x = r at *
  generalize x.es.length = n1 at *
  generalize x.dl = n2 at *
  generalize x.ac.length = n3 at *
  generalize x.xs.length = n4 at *
  obtain ⟨k, o, es, dl, ac, xs, q, v⟩ := x
  simp only at *
  by_cases hn : n1 + n2 + n3 + n4 = 0
  · obtain ⟨rfl, rfl, rfl, rfl⟩ : n1 = 0 ∧ n2 = 0 ∧ n3 = 0 ∧ n4 = 0 := by omega
    by_cases ho : o = 0
    · subst ho
      by_cases hq : q = 0
      · subst hq
        by_cases hv : v = 0
        · subst hv
          rw [if_pos (by simp)] at HC
          go_enter Try.func41, Try.ntmps41
          go_wp2
          go_ret
          exact ⟨ret_int HC.out.symm, (Below.refl _ _).alloc (Nat.le_refl _) _⟩
        · rw [if_neg (by simp [hv])] at HC
          have h1 : (v != 0) = true := by simpa using hv
          go_enter Try.func41, Try.ntmps41
          go_wp2
          go_ret
          exact ⟨ret_int HC.out.symm, (Below.refl _ _).alloc (Nat.le_refl _) _⟩
      · rw [if_neg (by simp [hq])] at HC
        have h1 : (q != 0) = true := by simpa using hq
        go_enter Try.func41, Try.ntmps41
        go_wp2
        go_ret
        exact ⟨ret_int HC.out.symm, (Below.refl _ _).alloc (Nat.le_refl _) _⟩
    · rw [if_neg (by simp [ho])] at HC
      have h1 : (o != 0) = true := by simpa using ho
      go_enter Try.func41, Try.ntmps41
      go_wp2
      go_ret
      exact ⟨ret_int HC.out.symm, (Below.refl _ _).alloc (Nat.le_refl _) _⟩
  · rw [if_neg (by omega)] at HC
    have h1 : (((n1 : Int) + (n2 : Int) + (n3 : Int) + (n4 : Int)) != 0) = true := by rw [bne_iff_ne]; omega
    go_enter Try.func41, Try.ntmps41
    go_wp2
    go_ret
    exact ⟨ret_int HC.out.symm, (Below.refl _ _).alloc (Nat.le_refl _) _⟩

end Go.Proofs.Ytndhhofidkaomaa
