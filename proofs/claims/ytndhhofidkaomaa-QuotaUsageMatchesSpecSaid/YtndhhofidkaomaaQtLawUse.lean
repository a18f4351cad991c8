/- The law QuotaUsageMatchesSpec returns true at every tree. Conditions: the tree's cells lie in memory as they read. -/
import Derived.Test.YtndhhofidkaomaaQtUsage
import Derived.Test.YtndhhofidkaomaaFsVTree
import Derived.Test.YtndhhofidkaomaaFsRefUse
import Derived.Deep.RegionHeld3

set_option linter.all false
namespace Go.Proofs.Ytndhhofidkaomaa
open Go.RowKit

set_option maxRecDepth 100000 in
set_option maxHeartbeats 800000 in
theorem refUse0_any (a : Option Addr) (c : Nat) (t : Tr) (n : Nat) (w : World) (hn : n < t.length) (hk : (nod t n).k = 0) (h : Nods w w.heap.size a c t) :
    Calls Try.prog 10 #[.agg #[.slice a t.length c], .int .i64 (n : Int)] w fun e w' => e = .returned (.int .i64 0) ∧ Below w.heap.size w w' := by
  have nlz : (n : Int) < (t.length : Int) := by omega
  have nz : (0 : Int) ≤ (n : Int) := Int.natCast_nonneg _
  obtain ⟨b, o, ve, vd, va, vx, rfl, hb, hc, hs⟩ := h.one hn
  have c0 := hc.c0
  rw [hk] at c0
  have B0 := Lib.hid ((Below.refl w.heap.size w).alloc (Nat.le_refl _) (.cells #[.slice (some ⟨b, o, none⟩) t.length c] 24))
  clear hc hs h hk
  go_enter Try.func10, Try.ntmps10
  go_wp2
  go_ret
  exact ⟨rfl, B0.out⟩
theorem usgN_free {t : Tr} (hd : Head t) (p3 : Pass t 3) {n : Nat} (hn : n < t.length) (hk : (nod t n).k = 0) : usgN t n = 0 := by
  have h1 := Pass.ok1 hd (p3.mono (by omega))
  have hf := (reach_ok hd p3 hn).1
  have hc := h1.code n hn
  unfold codeN at hc
  rw [if_pos hk] at hc
  unfold codeF at hc
  have hd0 : (nod t n).dl = 0 := by
    split at hc
    · rename_i h0; omega
    · cases hc
  have key : ∀ i, (if hasL (visits t n) i = true then (nod t i).dl else 0) = 0 := fun i => by
    split
    · rename_i hi
      obtain ⟨xs, hx⟩ := hasL_iff.1 hi
      rw [(free_rch h1 hk ((mem_visits hf).1 hx)).2]; exact hd0
    · rfl
  unfold usgN usg
  simp only [key]
  have := sum_le_mul (l := (List.range t.length).map fun _ => 0) (m := 0) (by simp)
  omega
theorem refUse_any (a : Option Addr) (c : Nat) (t : Tr) (n : Nat) (w : World) (hd : Head t) (p3 : Pass t 3) (hn : n < t.length) (h : Nods w w.heap.size a c t) :
    Calls Try.prog 10 #[.agg #[.slice a t.length c], .int .i64 (n : Int)] w fun e w' => e = .returned (.int .i64 (usgN t n : Nat)) ∧ Below w.heap.size w w' := by
  by_cases hk : (nod t n).k = 0
  · rw [usgN_free hd p3 hn hk]
    exact refUse0_any a c t n w hn hk h
  · exact refUsage_any a c t n w (Pass.ok1 hd (p3.mono (by omega))) (Pass.from_ hd p3 hn hk).1 h

set_option maxRecDepth 100000 in
set_option maxHeartbeats 3200000 in
theorem lawUse_any (a : Option Addr) (c : Nat) (t : Tr) (w : World) (h : Nods w w.heap.size a c t) :
    Calls Try.prog 3 #[.agg #[.slice a t.length c]] w fun e w' => e = .returned (.bool true) ∧ Below w.heap.size w w' := by
  have C2 := Lib.hid (fun W (hb : Below w.heap.size w W) => vtree_any a c t W (h.up hb))
  have C1 := Lib.hid (fun W (hb : Below w.heap.size w W) => use_any a c t W (h.up hb))
  have T0 := Lib.hid (One.new w (.slice a t.length c) 24)
  have B0 := Lib.hid ((Below.refl w.heap.size w).alloc (Nat.le_refl _) (.cells #[.slice a t.length c] 24))
  unfold faultV at C2
  unfold UsePost faultV at C1
  by_cases hq : (valT t).1 = 0
  · have hz := valT_zero hq
    obtain ⟨hd, p4⟩ := valT_ok hq
    have H1 := Lib.hid (Pass.ok1 hd (p4.mono (by omega)))
    have C3 := Lib.hid (fun n (hn : n < t.length) W (hb : Below w.heap.size w W) => refUse_any a c t n W hd (p4.mono (by omega)) hn (h.up hb))
    have h40 := H1.out.le
    rw [hz] at C1 C2
    clear hd p4 hq hz h
    go_enter Try.func3, Try.ntmps3
    go_wp2_with fail
    refine (C1.out _ B0.out).mono ?_
    rintro e W1 (⟨hx, _⟩ | ⟨_, R, hR, rfl, hrow, b1⟩)
    · exact absurd rfl hx
    have T1 := Lib.hid ((T0.out.below b1 T0.out.lt).alloc (.cells #[.int .i64 0, .int .i64 0] 27))
    have B1 := Lib.hid ((B0.out.trans (b1.mono B0.out.size)).alloc (Nat.le_trans B0.out.size b1.size) (.cells #[.int .i64 0, .int .i64 0] 27))
    have F1 := Lib.hid (FBox.new W1 0 0 27)
    have R1 := Lib.hid (hrow.alloc (.cells #[.int .i64 0, .int .i64 0] 27))
    have tc := (T0.out.below b1 T0.out.lt).c0
    have tl := (T0.out.below b1 T0.out.lt).lt
    have hRl := hrow.lt
    clear b1 hrow
    go_wp2_with fail
    refine (C2.out _ B1.out).mono ?_
    rintro e W2 ⟨rfl, b2⟩
    have T2 := Lib.hid ((T1.out.below b2 T1.out.lt).alloc (.cells #[.int .i64 0, .int .i64 0] 27))
    have B2 := Lib.hid ((B1.out.trans (b2.mono B1.out.size)).alloc (Nat.le_trans B1.out.size b2.size) (.cells #[.int .i64 0, .int .i64 0] 27))
    have R2 := Lib.hid ((R1.out.below b2 R1.out.lt).alloc (.cells #[.int .i64 0, .int .i64 0] 27))
    have F2 := Lib.hid (F1.out.below b2 F1.out.lt)
    have T2b := Lib.hid (T1.out.below b2 T1.out.lt)
    clear b2 tc tl C1 C2
    have f0 := F2.out.c0
    have f1 := F2.out.c1
    have fl := F2.out.lt
    have t0 := T2b.out.c0
    have tl := T2b.out.lt
    go_wp2_with fail
    clear f0 f1 fl t0 tl
    go_loopg [6] t.length (fun gg s6 wr => ∃ k : Nat, k ≤ t.length ∧ t.length - k ≤ gg ∧ s6 = .int .i64 k ∧ Aside (Below w.heap.size w wr) ∧ Aside (One wr w.heap.size (.slice a t.length c)) ∧ Aside (Row wr R t.length (fun j => .int .i64 (usgN t j : Nat))))
    case atStart => exact ⟨0, by omega, by omega, rfl, B2.out, T2.out, R2.out⟩
    case round =>
      obtain ⟨k, hk, hg, rfl, B3, T3, R3⟩ := hrel
      clear B2 T2 R2
      by_cases hlt : k < t.length
      · have hltz : (k : Int) < (t.length : Int) := by omega
        have hi0 : (0 : Int) ≤ (k : Int) := Int.natCast_nonneg _
        have HC := Lib.hid (fun W (hb : Below w.heap.size w W) => C3.out k hlt W hb)
        have t0 := T3.out.c0
        have tl := T3.out.lt
        have r0 := R3.out.c k hlt
        have rl := R3.out.lt
        generalize usgN t k = m at *
        go_wp2_with fail
        have K := Lib.hid (fun y (hy : Below wr.heap.size wr y) => (show Below wr.heap.size wr y ∧ y.cell? ⟨R, k, none⟩ = some (.int .i64 (m : Nat)) ∧ y.cell? ⟨w.heap.size, 0, none⟩ = some (.slice a t.length c) from
          ⟨hy, (hy.cell (p := ⟨R, k, none⟩) rl).trans r0, (hy.cell (p := ⟨w.heap.size, 0, none⟩) tl).trans t0⟩))
        go_region_held3 (fun y => Below wr.heap.size wr y ∧ y.cell? ⟨R, k, none⟩ = some (.int .i64 (m : Nat)) ∧ y.cell? ⟨w.heap.size, 0, none⟩ = some (.slice a t.length c))
          (first | exact K.out _ hR | exact K.out _ (Below.refl _ _).drew)
          ((go_at_call 10; have hs0 := And.left ‹Below wr.heap.size wr _ ∧ _›; refine (HC.out _ (B3.out.trans (hs0.mono B3.out.size))).mono ?_; rintro e y ⟨rfl, hb9⟩; have hR := hs0.trans (hb9.mono hs0.size)))
        all_goals
          have hz := And.left ‹Below wr.heap.size wr _ ∧ _›
          go_wp2
          go_roundg (t.length - (k + 1))
          case measure => omega
          case rel => exact ⟨k + 1, by omega, by omega, by go_num, B3.out.trans (hz.mono B3.out.size), T3.out.below hz tl, R3.out.below hz rl⟩
      · obtain rfl : k = t.length := by omega
        go_wp2
        go_ret
        exact ⟨rfl, B3.out⟩
  · have hq1 : ((valT t).1 != 0) = true := by simpa using hq
    have HQ := Lib.hid hq
    have C1' := Lib.hid (fun W (hb : Below w.heap.size w W) => (C1.out W hb).mono fun e w' hh => (show e = .returned (.tuple #[.slice none 0 0, .agg #[.int .i64 (valT t).1, .int .i64 (valT t).2]]) ∧ Below W.heap.size W w' from by
      rcases hh with ⟨_, h1⟩ | ⟨h0, _⟩
      · exact h1
      · exact absurd h0 hq))
    clear h hq C1
    generalize (valT t).1 = q at *
    generalize (valT t).2 = r at *
    go_enter Try.func3, Try.ntmps3
    go_wp2_with fail
    refine (C1'.out _ B0.out).mono ?_
    rintro e W1 ⟨rfl, b1⟩
    have B1 := Lib.hid ((B0.out.trans (b1.mono B0.out.size)).alloc (Nat.le_trans B0.out.size b1.size) (.cells #[.int .i64 q, .int .i64 r] 27))
    have F1 := Lib.hid (FBox.new W1 q r 27)
    have tc := (T0.out.below b1 T0.out.lt).c0
    have tl := (T0.out.below b1 T0.out.lt).lt
    clear b1
    go_wp2_with fail
    refine (C2.out _ B1.out).mono ?_
    rintro e W2 ⟨rfl, b2⟩
    have B2 := Lib.hid ((B1.out.trans (b2.mono B1.out.size)).alloc (Nat.le_trans B1.out.size b2.size) (.cells #[.int .i64 q, .int .i64 r] 27))
    have F2 := Lib.hid (F1.out.below b2 F1.out.lt)
    clear b2 tc tl C1' C2
    have f0 := F2.out.c0
    have f1 := F2.out.c1
    have fl := F2.out.lt
    go_wp2
    go_ret
    exact ⟨rfl, B2.out⟩

end Go.Proofs.Ytndhhofidkaomaa
