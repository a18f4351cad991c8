/- checkContents at every inode. Conditions: the inode's slices lie in memory as they read. -/
import Derived.Test.YtndhhofidkaomaaFsLeaves

set_option linter.all false
namespace Go.Proofs.Ytndhhofidkaomaa
open Go.RowKit

set_option maxHeartbeats 3200000 in
theorem checkContents_any (x : Nod) (ve vd va vx : Value) (w : World) (h : NodS w w.heap.size ve vd va vx x) :
    Calls Try.prog 43 #[.agg #[.int .i64 x.k, .int .i64 x.o, ve, vd, va, vx, .int .i64 x.q, .int .i64 x.v]] w fun e w' => e = .returned (.int .i64 (codeC x)) ∧ Below w.heap.size w w' := by
  obtain ⟨⟨ea, ec, rfl, hec, hel, _, _⟩, ⟨da, dc, rfl, hdc⟩, hdl, ⟨aa, acp, rfl, hacc, hacl, _, _⟩, ⟨xa, xc, rfl, hxc, hxl, _, _⟩, _, _, _, _⟩ := h
  have HC := Lib.hid (show codeC x = if ¬ (0 ≤ x.o ∧ x.o ≤ 7) ∨ ¬ (0 ≤ x.v ∧ x.v ≤ 1000000) ∨ ¬ (0 ≤ x.q ∧ x.q ≤ 100000) then 3
    else if (x.k = 1 ∧ 0 < x.dl) ∨ (x.k ≠ 1 ∧ (0 < x.es.length ∨ x.q ≠ 0)) then 5
    else if 200 < x.dl then 10 else 0 from rfl)
  generalize codeC x = r at *
  generalize x.es.length = n1 at *
  generalize x.dl = n2 at *
  generalize x.ac.length = n3 at *
  generalize x.xs.length = n4 at *
  obtain ⟨k, o, es, dl, ac, xs, q, v⟩ := x
  simp only at *
  have c1 := fun W => isBetween_any o 7 W
  have c2 := fun W => isBetween_any v 1000000 W
  have c3 := fun W => isBetween_any q 100000 W
  by_cases h1 : 0 ≤ o ∧ o ≤ 7
  · rw [decide_eq_true h1] at c1
    by_cases h2 : 0 ≤ v ∧ v ≤ 1000000
    · rw [decide_eq_true h2] at c2
      by_cases h3 : 0 ≤ q ∧ q ≤ 100000
      · rw [decide_eq_true h3] at c3
        rw [if_neg (by simp [h1, h2, h3])] at HC
        clear h1 h2 h3
        by_cases hk : k = 1
        · subst hk
          by_cases hd : 0 < n2
          · rw [if_pos (Or.inl ⟨rfl, hd⟩)] at HC
            have C1 := Lib.hid c1; have C2 := Lib.hid c2; have C3 := Lib.hid c3
            clear c1 c2 c3
            go_enter Try.func43, Try.ntmps43
            go_wp2_with fail
            refine (C1.out _).mono ?_
            rintro e w' ⟨rfl, rfl⟩
            go_wp2_with fail
            refine (C2.out _).mono ?_
            rintro e w' ⟨rfl, rfl⟩
            go_wp2_with fail
            refine (C3.out _).mono ?_
            rintro e w' ⟨rfl, rfl⟩
            go_wp2
            go_ret
            exact ⟨ret_int (by rw [HC.out]), (Below.refl _ _).alloc (Nat.le_refl _) _⟩
          · obtain rfl : n2 = 0 := by omega
            rw [if_neg (by simp), if_neg (by simp)] at HC
            have C1 := Lib.hid c1; have C2 := Lib.hid c2; have C3 := Lib.hid c3
            clear c1 c2 c3
            go_enter Try.func43, Try.ntmps43
            go_wp2_with fail
            refine (C1.out _).mono ?_
            rintro e w' ⟨rfl, rfl⟩
            go_wp2_with fail
            refine (C2.out _).mono ?_
            rintro e w' ⟨rfl, rfl⟩
            go_wp2_with fail
            refine (C3.out _).mono ?_
            rintro e w' ⟨rfl, rfl⟩
            go_wp2
            go_ret
            exact ⟨ret_int (by rw [HC.out]), (Below.refl _ _).alloc (Nat.le_refl _) _⟩
        · have hk1 : (k == 1) = false := by simpa using hk
          by_cases he : 0 < n1
          · rw [if_pos (Or.inr ⟨hk, Or.inl he⟩)] at HC
            clear hk
            have C1 := Lib.hid c1; have C2 := Lib.hid c2; have C3 := Lib.hid c3
            clear c1 c2 c3
            go_enter Try.func43, Try.ntmps43
            go_wp2_with fail
            refine (C1.out _).mono ?_
            rintro e w' ⟨rfl, rfl⟩
            go_wp2_with fail
            refine (C2.out _).mono ?_
            rintro e w' ⟨rfl, rfl⟩
            go_wp2_with fail
            refine (C3.out _).mono ?_
            rintro e w' ⟨rfl, rfl⟩
            go_wp2
            go_ret
            exact ⟨ret_int (by rw [HC.out]), (Below.refl _ _).alloc (Nat.le_refl _) _⟩
          · obtain rfl : n1 = 0 := by omega
            by_cases hq : q = 0
            · subst hq
              rw [if_neg (by simp [hk])] at HC
              clear hk
              by_cases hd : 200 < n2
              · rw [if_pos hd] at HC
                have C1 := Lib.hid c1; have C2 := Lib.hid c2; have C3 := Lib.hid c3
                clear c1 c2 c3
                go_enter Try.func43, Try.ntmps43
                go_wp2_with fail
                refine (C1.out _).mono ?_
                rintro e w' ⟨rfl, rfl⟩
                go_wp2_with fail
                refine (C2.out _).mono ?_
                rintro e w' ⟨rfl, rfl⟩
                go_wp2_with fail
                refine (C3.out _).mono ?_
                rintro e w' ⟨rfl, rfl⟩
                go_wp2
                go_ret
                exact ⟨ret_int (by rw [HC.out]), (Below.refl _ _).alloc (Nat.le_refl _) _⟩
              · rw [if_neg hd] at HC
                have C1 := Lib.hid c1; have C2 := Lib.hid c2; have C3 := Lib.hid c3
                clear c1 c2 c3
                go_enter Try.func43, Try.ntmps43
                go_wp2_with fail
                refine (C1.out _).mono ?_
                rintro e w' ⟨rfl, rfl⟩
                go_wp2_with fail
                refine (C2.out _).mono ?_
                rintro e w' ⟨rfl, rfl⟩
                go_wp2_with fail
                refine (C3.out _).mono ?_
                rintro e w' ⟨rfl, rfl⟩
                go_wp2
                go_ret
                exact ⟨ret_int (by rw [HC.out]), (Below.refl _ _).alloc (Nat.le_refl _) _⟩
            · rw [if_pos (Or.inr ⟨hk, Or.inr hq⟩)] at HC
              have hq1 : (q != 0) = true := by simpa using hq
              clear hk hq
              have C1 := Lib.hid c1; have C2 := Lib.hid c2; have C3 := Lib.hid c3
              clear c1 c2 c3
              go_enter Try.func43, Try.ntmps43
              go_wp2_with fail
              refine (C1.out _).mono ?_
              rintro e w' ⟨rfl, rfl⟩
              go_wp2_with fail
              refine (C2.out _).mono ?_
              rintro e w' ⟨rfl, rfl⟩
              go_wp2_with fail
              refine (C3.out _).mono ?_
              rintro e w' ⟨rfl, rfl⟩
              go_wp2
              go_ret
              exact ⟨ret_int (by rw [HC.out]), (Below.refl _ _).alloc (Nat.le_refl _) _⟩
      · rw [decide_eq_false h3] at c3
        rw [if_pos (Or.inr (Or.inr h3))] at HC
        clear h1 h2 h3
        have C1 := Lib.hid c1; have C2 := Lib.hid c2; have C3 := Lib.hid c3
        clear c1 c2 c3
        go_enter Try.func43, Try.ntmps43
        go_wp2_with fail
        refine (C1.out _).mono ?_
        rintro e w' ⟨rfl, rfl⟩
        go_wp2_with fail
        refine (C2.out _).mono ?_
        rintro e w' ⟨rfl, rfl⟩
        go_wp2_with fail
        refine (C3.out _).mono ?_
        rintro e w' ⟨rfl, rfl⟩
        go_wp2
        go_ret
        exact ⟨ret_int (by rw [HC.out]), (Below.refl _ _).alloc (Nat.le_refl _) _⟩
    · rw [decide_eq_false h2] at c2
      rw [if_pos (Or.inr (Or.inl h2))] at HC
      clear h1 h2
      have C1 := Lib.hid c1; have C2 := Lib.hid c2; have C3 := Lib.hid c3
      clear c1 c2 c3
      go_enter Try.func43, Try.ntmps43
      go_wp2_with fail
      refine (C1.out _).mono ?_
      rintro e w' ⟨rfl, rfl⟩
      go_wp2_with fail
      refine (C2.out _).mono ?_
      rintro e w' ⟨rfl, rfl⟩
      go_wp2
      go_ret
      exact ⟨ret_int (by rw [HC.out]), (Below.refl _ _).alloc (Nat.le_refl _) _⟩
  · rw [decide_eq_false h1] at c1
    rw [if_pos (Or.inl h1)] at HC
    clear h1
    have C1 := Lib.hid c1; have C2 := Lib.hid c2; have C3 := Lib.hid c3
    clear c1 c2 c3
    go_enter Try.func43, Try.ntmps43
    go_wp2_with fail
    refine (C1.out _).mono ?_
    rintro e w' ⟨rfl, rfl⟩
    go_wp2
    go_ret
    exact ⟨ret_int (by rw [HC.out]), (Below.refl _ _).alloc (Nat.le_refl _) _⟩

end Go.Proofs.Ytndhhofidkaomaa
