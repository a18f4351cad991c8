/- The law GlobMatchMatchesSpec returns true at every two strings. Condition: the strings are of at most two to the 47th bytes. -/
import Derived.Test.YtoeiaffkedkepaaGlobText
import Derived.Test.YtoeiaffkedkepaaGlobRef
namespace Go.Proofs.Ytoeiaffkedkepaa
open Go.RowKit

def gA : ByteArray := ⟨#[97, 42, 99]⟩
def gB : ByteArray := ⟨#[97, 98, 98, 99]⟩
theorem matV_one : matV gA gB = .tuple #[.bool true, .agg #[.int .i64 0, .int .i64 0]] := by
  have h : mat gA gB = true := by decide
  unfold matV matF
  rw [h, if_neg (by decide), if_neg (by decide)]; rfl
theorem match_one (w : World) : Calls Try.prog 6 #[.string ⟨#[97, 42, 99]⟩, .string ⟨#[97, 98, 98, 99]⟩] w fun e w' => e = .returned (.tuple #[.bool true, .agg #[.int .i64 0, .int .i64 0]]) ∧ Below w.heap.size w w' := by
  have h := match_any gA gB w (by decide) (by decide)
  rw [matV_one] at h
  exact h

set_option maxHeartbeats 1600000 in
theorem lawMatch_any (p s : ByteArray) (w : World) (hp : p.size < 140737488355328) (hs : s.size < 140737488355328) :
    Calls Try.prog 3 #[.string p, .string s] w fun e w' => e = .returned (.bool true) ∧ Below w.heap.size w w' := by
  have C1 := Lib.hid (fun W => match_any p s W (by unfold maxLen; omega) (by unfold maxLen; omega))
  have C2 := Lib.hid (fun W => match_one W)
  by_cases hbad : 100 < p.size ∨ 100 < s.size
  · obtain ⟨i, hV, hi, hc⟩ : ∃ i : Int, matV p s = .tuple #[.bool false, .agg #[.int .i64 2, .int .i64 i]] ∧ (100 < p.size → i = 0) ∧ (¬ 100 < p.size → i = 1 ∧ 100 < s.size) := by
      by_cases h1 : 100 < p.size
      · exact ⟨0, by unfold matV matF; rw [if_pos h1]; rfl, fun _ => rfl, fun h => absurd h1 h⟩
      · exact ⟨1, by unfold matV matF; rw [if_neg h1, if_pos (by omega)]; rfl, fun h => absurd h h1, fun _ => ⟨rfl, by omega⟩⟩
    have c1 := C1.out
    rw [hV] at c1
    clear C1 hV
    have C1 := Lib.hid c1
    have HI := Lib.hid hi
    have HC := Lib.hid hc
    clear c1 hi hc hbad
    by_cases h1 : 100 < p.size
    · obtain rfl := HI.out h1
      have hz : (100 : Int) < (p.size : Int) := by omega
      clear HI HC
      go_enter Try.func3, Try.ntmps3
      go_wp2_with fail
      refine (C1.out _).mono ?_
      rintro e w1 ⟨rfl, b1⟩
      have B1 := Lib.hid ((b1.alloc b1.size (.cells #[.int .i64 2, .int .i64 0] 23)).alloc (by have := b1.size; simp; omega) (.cells #[.int .i64 0, .int .i64 0] 23))
      have X1 := Lib.hid ((FBox.new w1 2 0 23).alloc (.cells #[.int .i64 0, .int .i64 0] 23))
      have Y1 := Lib.hid ((FBox.new (w1.alloc (.cells #[.int .i64 2, .int .i64 0] 23)) 0 0 23).at_ (n' := w1.heap.size + 1) (by simp))
      have hs1 := b1.size
      clear b1
      go_wp2_with fail
      refine (newFault_any _ _ _).mono ?_
      rintro e w2 ⟨rfl, b2⟩
      have B2 := Lib.hid (B1.out.trans (b2.mono B1.out.size))
      have X2 := Lib.hid (X1.out.below b2 X1.out.lt)
      have Y2 := Lib.hid (Y1.out.below b2 Y1.out.lt)
      clear b2 X1 Y1 B1
      generalize w1.heap.size = n1 at *
      have X3 := Lib.hid ((X2.out.far (p := ⟨n1 + 1, 0, none⟩) (by simp) (.int .i64 2)).far (p := ⟨n1 + 1, 1, none⟩) (by simp) (.int .i64 0))
      have Y3 := Lib.hid (Y2.out.put 2 0)
      have B3 := Lib.hid ((B2.out.setCell (p := ⟨n1 + 1, 0, none⟩) (by simp; omega) (.int .i64 2)).setCell (p := ⟨n1 + 1, 1, none⟩) (by simp; omega) (.int .i64 0))
      obtain ⟨ly, y0, y1, zf0, zf1⟩ := Y2.out
      clear X2 B2
      go_wp2_with fail
      refine (C2.out _).mono ?_
      rintro e w4 ⟨rfl, b4⟩
      have B4 := B3.out.trans (b4.mono B3.out.size)
      have X4 := X3.out.below b4 X3.out.lt
      have Y4 := Y3.out.below b4 Y3.out.lt
      obtain ⟨lx, x0, x1, _, _⟩ := X4
      obtain ⟨ly4, yy0, yy1, _, _⟩ := Y4
      clear y0 y1 zf0 zf1 ly b4 X3 Y3 B3 Y2
      go_wp2
      go_ret
      exact ⟨rfl, by repeat (first | exact B4 | refine Below.alloc ?_ (by first | omega | (have := B4.size; simp; omega)) _)⟩
    · obtain ⟨rfl, h2⟩ := HC.out h1
      have hz : ¬ (100 : Int) < (p.size : Int) := by omega
      have hz2 : (100 : Int) < (s.size : Int) := by omega
      clear HI HC
      go_enter Try.func3, Try.ntmps3
      go_wp2_with fail
      refine (C1.out _).mono ?_
      rintro e w1 ⟨rfl, b1⟩
      have B1 := Lib.hid ((b1.alloc b1.size (.cells #[.int .i64 2, .int .i64 1] 23)).alloc (by have := b1.size; simp; omega) (.cells #[.int .i64 0, .int .i64 0] 23))
      have X1 := Lib.hid ((FBox.new w1 2 1 23).alloc (.cells #[.int .i64 0, .int .i64 0] 23))
      have Y1 := Lib.hid ((FBox.new (w1.alloc (.cells #[.int .i64 2, .int .i64 1] 23)) 0 0 23).at_ (n' := w1.heap.size + 1) (by simp))
      have hs1 := b1.size
      clear b1
      go_wp2_with fail
      refine (newFault_any _ _ _).mono ?_
      rintro e w2 ⟨rfl, b2⟩
      have B2 := Lib.hid (B1.out.trans (b2.mono B1.out.size))
      have X2 := Lib.hid (X1.out.below b2 X1.out.lt)
      have Y2 := Lib.hid (Y1.out.below b2 Y1.out.lt)
      clear b2 X1 Y1 B1
      generalize w1.heap.size = n1 at *
      have X3 := Lib.hid ((X2.out.far (p := ⟨n1 + 1, 0, none⟩) (by simp) (.int .i64 2)).far (p := ⟨n1 + 1, 1, none⟩) (by simp) (.int .i64 1))
      have Y3 := Lib.hid (Y2.out.put 2 1)
      have B3 := Lib.hid ((B2.out.setCell (p := ⟨n1 + 1, 0, none⟩) (by simp; omega) (.int .i64 2)).setCell (p := ⟨n1 + 1, 1, none⟩) (by simp; omega) (.int .i64 1))
      obtain ⟨ly, y0, y1, zf0, zf1⟩ := Y2.out
      clear X2 B2
      go_wp2_with fail
      refine (C2.out _).mono ?_
      rintro e w4 ⟨rfl, b4⟩
      have B4 := B3.out.trans (b4.mono B3.out.size)
      have X4 := X3.out.below b4 X3.out.lt
      have Y4 := Y3.out.below b4 Y3.out.lt
      obtain ⟨lx, x0, x1, _, _⟩ := X4
      obtain ⟨ly4, yy0, yy1, _, _⟩ := Y4
      clear y0 y1 zf0 zf1 ly b4 X3 Y3 B3 Y2
      go_wp2
      go_ret
      exact ⟨rfl, by repeat (first | exact B4 | refine Below.alloc ?_ (by first | omega | (have := B4.size; simp; omega)) _)⟩
  · have hV : matV p s = .tuple #[.bool (mat p s), .agg #[.int .i64 0, .int .i64 0]] := by
      unfold matV matF; rw [if_neg (by omega), if_neg (by omega)]; rfl
    have c1 := C1.out
    rw [hV] at c1
    clear C1 hV
    have C1 := Lib.hid c1
    have C3 := Lib.hid (fun W => starCount_any p W (by omega))
    have C4 := Lib.hid (fun W => refMatch_any (p.size + 1) p s W (by omega) (by omega) (by omega))
    clear c1
    have hz : ¬ (100 : Int) < (p.size : Int) := by omega
    have hz2 : ¬ (100 : Int) < (s.size : Int) := by omega
    clear hbad
    generalize mat p s = M at *
    go_enter Try.func3, Try.ntmps3
    go_wp2_with fail
    refine (C1.out _).mono ?_
    rintro e w1 ⟨rfl, b1⟩
    have B1 := Lib.hid ((b1.alloc b1.size (.cells #[.int .i64 0, .int .i64 0] 23)).alloc (by have := b1.size; simp; omega) (.cells #[.int .i64 0, .int .i64 0] 23))
    have X1 := Lib.hid ((FBox.new w1 0 0 23).alloc (.cells #[.int .i64 0, .int .i64 0] 23))
    have Y1 := Lib.hid ((FBox.new (w1.alloc (.cells #[.int .i64 0, .int .i64 0] 23)) 0 0 23).at_ (n' := w1.heap.size + 1) (by simp))
    have hs1 := b1.size
    clear b1
    go_wp2_with fail
    refine (C2.out _).mono ?_
    rintro e w4 ⟨rfl, b4⟩
    have B4 := B1.out.trans (b4.mono B1.out.size)
    have X4 := X1.out.below b4 X1.out.lt
    have Y4 := Y1.out.below b4 Y1.out.lt
    obtain ⟨lx, x0, x1, _, _⟩ := X4
    obtain ⟨ly4, yy0, yy1, _, _⟩ := Y4
    generalize w1.heap.size = n1 at *
    clear b4 X1 Y1 B1
    go_wp2_with fail
    refine (C3.out _).mono ?_
    rintro e _ ⟨⟨n, rfl⟩, rfl⟩
    have fin : ∀ m, Below w.heap.size w ((w4.alloc (.cells #[.int .i64 0, .int .i64 0] 23)).drewN m) := fun m => below_drewN (B4.alloc B4.size _) m
    by_cases h4 : 4 < n
    · have h4z : (4 : Int) < (n : Int) := by omega
      go_wp2
      go_ret
      exact ⟨rfl, fin 0⟩
    · have h4z : ¬ (4 : Int) < (n : Int) := by omega
      by_cases h40 : 40 < p.size
      · have h40z : (40 : Int) < (p.size : Int) := by omega
        go_wp2
        go_ret
        exact ⟨rfl, fin 0⟩
      · have h40z : ¬ (40 : Int) < (p.size : Int) := by omega
        by_cases h41 : 40 < s.size
        · have h41z : (40 : Int) < (s.size : Int) := by omega
          go_wp2
          go_ret
          exact ⟨rfl, fin 0⟩
        · have h41z : ¬ (40 : Int) < (s.size : Int) := by omega
          go_wp2_with fail
          refine (C4.out _).mono ?_
          rintro e _ ⟨rfl, m, rfl⟩
          go_wp2
          go_ret
          exact ⟨ret_bool (by simp), fin m⟩

end Go.Proofs.Ytoeiaffkedkepaa
