/- The law RngPermMatchesSpec returns true at every seed and size. No condition. -/
import Derived.Test.YtiknheoeldboaaaRngRefPerm
import Derived.Test.YtiknheoeldboaaaIntsSame
import Derived.WalkSmall

set_option linter.all false
namespace Go.Proofs.Ytiknheoeldboaaa
open Go.RowKit

set_option maxHeartbeats 800000 in
/-- Two slices of no ints. -/
theorem intsNone_any (a1 a2 : Option Addr) (c1 c2 : Nat) (w : World) :
    Calls Try.prog 17 #[.slice a1 0 c1, .slice a2 0 c2] w fun e w' => e = .returned (.bool true) ∧ w = w' := by
  go_enter Try.func17, Try.ntmps17
  go_wp2_with fail
  go_loopg [5] 1 (fun gg s5 wr => s5 = .int .i64 0 ∧ wr = w)
  case atStart => exact ⟨rfl, rfl⟩
  case round =>
    obtain ⟨rfl, rfl⟩ := hrel
    go_wp2
    go_ret
    exact ⟨rfl, rfl⟩

set_option maxHeartbeats 3200000 in
theorem lawPermBad_any (s n : Int) (w : World) (h : rfC s n 0 = 3) :
    Calls Try.prog 5 #[.int .i64 s, .int .i64 n] w fun e w' => e = .returned (.bool true) ∧ Below w.heap.size w w' := by
  have C1 := Lib.hid (fun W => permBad_any s n W h)
  have C3 := Lib.hid (fun W => validSeed_any s n 0 W)
  have C4 := Lib.hid (fun W => rngExample_any W)
  unfold CK at C3
  rw [h] at C3
  clear h
  generalize rfI s n 0 = i at *
  go_enter Try.func5, Try.ntmps5
  go_wp2_with fail
  refine (C1.out _).mono ?_
  rintro e W1 ⟨rfl, b1⟩
  have F1 := FBox.new W1 3 i 23
  have B1 := b1.alloc b1.size (.cells #[.int .i64 3, .int .i64 i] 23)
  clear b1
  go_wp2_with fail
  refine (C3.out _).mono ?_
  rintro e W3 ⟨rfl, b3⟩
  have hz := b3.size
  obtain ⟨l1, a0, a1, g0, g1⟩ := F1.below b3 F1.lt
  have B3 := B1.trans (b3.mono B1.size)
  clear b3 F1 B1
  go_wp2_with fail
  refine (C4.out _).mono ?_
  rintro e W4 ⟨rfl, b4⟩
  go_wp2
  go_ret
  exact ⟨rfl, ((B3.alloc B3.size _).trans (b4.mono (by have := B3.size; simp; omega)))⟩

set_option maxHeartbeats 3200000 in
theorem lawPermMany_any (s n : Int) (w : World) (h : rfC s n 0 = 0) (hn : 200 < n) :
    Calls Try.prog 5 #[.int .i64 s, .int .i64 n] w fun e w' => e = .returned (.bool true) ∧ Below w.heap.size w w' := by
  have C1 := Lib.hid (fun W => permMany_any s n W h hn)
  have C3 := Lib.hid (fun W => validSeed_any s n 0 W)
  have C4 := Lib.hid (fun W => rngExample_any W)
  unfold CK at C3
  rw [h, rfI_zero h] at C3
  clear h
  go_enter Try.func5, Try.ntmps5
  go_wp2_with fail
  refine (C1.out _).mono ?_
  rintro e W1 ⟨rfl, b1⟩
  have b1s := b1.size
  have F1 := FBox.new W1 2 0 23
  have B1 := b1.alloc b1.size (.cells #[.int .i64 2, .int .i64 0] 23)
  clear b1
  go_wp2_with fail
  refine (C3.out _).mono ?_
  rintro e W3 ⟨rfl, b3⟩
  have hz := b3.size
  simp at hz
  have F2 := (F1.below b3 F1.lt).alloc (.cells #[.int .i64 0, .int .i64 0] 23)
  have G2 := FBox.new W3 0 0 23
  have B3 := (B1.trans (b3.mono B1.size)).alloc (Nat.le_trans B1.size b3.size) (.cells #[.int .i64 0, .int .i64 0] 23)
  clear b3 F1 B1
  go_wp2_with fail
  refine (newFault_any _ _ _).mono ?_
  rintro e W5 ⟨rfl, b5⟩
  have F3 := F2.below b5 F2.lt
  have G3 := G2.below b5 G2.lt
  have B5 := B3.trans (b5.mono B3.size)
  clear b5 F2 G2 B3
  have hne : W1.heap.size ≠ W3.heap.size := by omega
  obtain ⟨l0, a0, a1, g0, g1⟩ := F3.far (p := ⟨W3.heap.size, 0, none⟩) hne (.int .i64 2) |>.far (p := ⟨W3.heap.size, 1, none⟩) hne (.int .i64 0)
  obtain ⟨l1, c0, c1, d0, d1⟩ := G3.put 2 0
  obtain ⟨l2, e0, e1, h0, h1⟩ := G3
  have hz2 : W3.heap.size < W5.heap.size := l2
  have hz3 : W1.heap.size < W5.heap.size := F3.lt
  have B6 := Lib.hid ((B5.setCell (p := ⟨W3.heap.size, 0, none⟩) (by have := B5.size; have h9 := b1s; simp; omega) (.int .i64 2)).setCell (p := ⟨W3.heap.size, 1, none⟩) (by have h9 := b1s; simp; omega) (.int .i64 0))
  clear B5 F3
  go_wp2_with fail
  refine (C4.out _).mono ?_
  rintro e W4 ⟨rfl, b4⟩
  go_wp2
  go_ret
  exact ⟨rfl, B6.out.trans (b4.mono B6.out.size)⟩

set_option maxHeartbeats 3200000 in
theorem lawPermOk_any (s : Int) (n : Nat) (w : World) (h : rfC s (n : Int) 0 = 0) (hn : n ≤ 200) :
    Calls Try.prog 5 #[.int .i64 s, .int .i64 (n : Int)] w fun e w' => e = .returned (.bool true) ∧ Below w.heap.size w w' := by
  obtain ⟨hs0, hs1, _, _⟩ := rfC_zero h
  have C1 := Lib.hid (fun W => permOk_any s n W h hn)
  have C2 := Lib.hid (fun W => refPerm_any s n W hs0 hs1 hn)
  have C3 := Lib.hid (fun W => validSeed_any s n 0 W)
  have C4 := Lib.hid (fun W => rngExample_any W)
  unfold CK at C3
  unfold RefPermPost at C2
  rw [h, rfI_zero h] at C3
  clear h
  have HP := Lib.hid (show n = 0 → (shuf (n - 1) s (fun j => (j : Int))).2 = s from fun e => by subst e; rfl)
  generalize shuf (n - 1) s (fun j => (j : Int)) = P at *
  have hnz : (n : Int) ≤ 200 := by omega
  go_enter Try.func5, Try.ntmps5
  go_wp2_with fail
  refine (C1.out _).mono ?_
  rintro e W1 ⟨R, hR, rfl, r1, b1⟩
  have F1 := FBox.new W1 0 0 23
  have R1 := r1.alloc (.cells #[.int .i64 0, .int .i64 0] 23)
  have B1 := b1.alloc b1.size (.cells #[.int .i64 0, .int .i64 0] 23)
  clear b1 r1
  go_wp2_with fail
  refine (C3.out _).mono ?_
  rintro e W3 ⟨rfl, b3⟩
  have F2 := (F1.below b3 F1.lt).alloc (.cells #[.int .i64 0, .int .i64 0] 23)
  have R2 := (R1.below b3 R1.lt).alloc (.cells #[.int .i64 0, .int .i64 0] 23)
  have G2 := FBox.new W3 0 0 23
  have B3 := (B1.trans (b3.mono B1.size)).alloc (Nat.le_trans B1.size b3.size) (.cells #[.int .i64 0, .int .i64 0] 23)
  clear b3 F1 B1 R1
  go_wp2_with fail
  refine (C2.out _).mono ?_
  rintro e W5 ⟨b5, hor⟩
  have F3 := F2.below b5 F2.lt
  have R3 := R2.below b5 R2.lt
  have G3 := G2.below b5 G2.lt
  have B5 := B3.trans (b5.mono B3.size)
  clear b5 F2 G2 B3 R2
  obtain ⟨l0, a0, a1, g0, g1⟩ := F3
  obtain ⟨l2, e0, e1, h0, h1⟩ := G3
  rcases hor with ⟨rfl, a, c, rfl⟩ | ⟨npos, R', c, hR', rfl, r5⟩
  · obtain ⟨Pf, ps⟩ := P
    obtain rfl : ps = s := HP.out rfl
    clear C1 C2 C3 HP
    go_wp2_with fail
    refine (intsNone_any _ _ _ _ _).mono ?_
    rintro e W6 ⟨rfl, rfl⟩
    go_wp2_with fail
    refine (C4.out _).mono ?_
    rintro e W4 ⟨rfl, b4⟩
    go_wp2
    go_ret
    exact ⟨rfl, B5.trans (b4.mono B5.size)⟩
  · have NP := Lib.hid npos
    go_wp2_with fail
    refine (intsSame_any R 0 n R' 0 c n P.1 _ (by omega) (fun j hj => by rw [Nat.zero_add]; exact R3.c j hj) (fun j hj => by rw [Nat.zero_add]; exact r5.c j hj)).mono ?_
    rintro e W6 ⟨rfl, q, rfl⟩
    go_wp2_with fail
    refine (C4.out _).mono ?_
    rintro e W4 ⟨rfl, b4⟩
    go_wp2
    go_ret
    exact ⟨rfl, (below_drewN B5 q).trans (b4.mono (by simpa using B5.size))⟩

theorem lawPerm_any (s n : Int) (w : World) :
    Calls Try.prog 5 #[.int .i64 s, .int .i64 n] w fun e w' => e = .returned (.bool true) ∧ Below w.heap.size w w' := by
  rcases rfC_or s n 0 with h | h
  · exact lawPermBad_any s n w h
  · obtain ⟨_, _, hn0, _⟩ := rfC_zero h
    by_cases hn : 200 < n
    · exact lawPermMany_any s n w h hn
    · obtain ⟨n, rfl⟩ := Int.eq_ofNat_of_zero_le hn0
      exact lawPermOk_any s n w h (by omega)

end Go.Proofs.Ytiknheoeldboaaa
