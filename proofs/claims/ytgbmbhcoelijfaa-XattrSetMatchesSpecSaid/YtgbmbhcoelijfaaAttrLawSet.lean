/- The law XattrSetMatchesSpec returns true at every list and attribute. Conditions: the slice's cells lie in memory as they read; the strings are of at most the model's longest length. -/
import Derived.Test.YtgbmbhcoelijfaaAttrLawSet0
import Derived.Test.YtgbmbhcoelijfaaAttrRefSet
namespace Go.Proofs.Ytgbmbhcoelijfaa
open Go.RowKit

set_option maxRecDepth 100000 in
set_option maxHeartbeats 4000000 in
theorem lawSet_any (v : Value) (xs : List Attr) (x y : ByteArray) (w : World) (h : Ats w w.heap.size v xs) (hx : x.size ≤ maxLen) (hy : y.size ≤ maxLen) :
    Calls Try.prog 5 #[v, .agg #[.string x, .string y]] w fun e w' => e = .returned (.bool true) ∧ Below w.heap.size w w' := by
  have C1 := Lib.hid (fun W (hb : Below w.heap.size w W) => set_any v xs x y W (h.up hb) ⟨hx, hy⟩)
  have C2 := Lib.hid (fun W (hb : Below w.heap.size w W) => refValidate_any v xs W (h.up hb))
  have CC := Lib.hid (fun W => attrCode_any x y W hx hy)
  have H := Lib.hid h
  obtain ⟨a, cc, rfl, hcap⟩ := h.form rfl
  clear h
  unfold valAV faultV at C2
  unfold SetFPost faultV at C1
  by_cases hv : (valA xs).1 = 0
  rotate_left
  · have HF := Lib.hid (show setF xs ⟨x, y⟩ = ((valA xs).1, (valA xs).2) by unfold setF; rw [if_neg hv])
    have HO := Lib.hid (show setO xs ⟨x, y⟩ = [] by unfold setO setF; rw [if_neg hv, if_neg hv])
    generalize (valA xs).1 = d at *
    generalize (valA xs).2 = i at *
    have hd1 : (d != 0) = true := by simpa using hv
    have hd2 : (d == 0) = false := by simpa using hv
    clear hv
    go_enter Try.func5, Try.ntmps5
    go_wp2_with fail
    refine (C1.out _ ((Below.refl _ _).alloc (Nat.le_refl _) _)).mono ?_
    rintro e w1 ⟨v1, rfl, A1, b1⟩
    have Z1 := (AB.new w x y 27).below b1 (by first | omega | (simp; done) | (simp; omega))
    have B1 : Below w.heap.size w w1 := ((Below.refl _ _).alloc (Nat.le_refl _) _).trans (b1.mono (by first | omega | (simp; done) | (simp; omega)))
    have s1 := B1.size
    have t1 := Z1.lt
    clear b1
    rw [HF.out]
    rw [HO.out] at A1
    obtain ⟨am, cm, rfl, _⟩ := A1.form rfl
    go_wp2_with fail
    refine (C2.out _ (B1.alloc s1 _)).mono ?_
    rintro e w2 ⟨rfl, b2⟩
    have X2 := (FBox.new w1 d i 24).below b2 (by first | omega | (simp; done) | (simp; omega))
    have Z2 := (Z1.alloc (.cells #[.int .i64 d, .int .i64 i] 24)).below b2 (by first | omega | (simp; done) | (simp; omega))
    have A2 := (A1.alloc (Nat.le_refl _) (.cells #[.int .i64 d, .int .i64 i] 24)).below (b2.mono (by first | omega | (simp; done) | (simp; omega)))
    have B2 : Below w.heap.size w w2 := (B1.alloc s1 _).trans (b2.mono (by first | omega | (simp; done) | (simp; omega)))
    have s2 := B2.size
    have l2 := X2.lt
    have t2 := Z2.lt
    clear b2 Z1 A1 B1
    generalize w1.heap.size = n1 at *
    have Y2 := FBox.new w2 d i 24
    clear Z2 A2
    generalize hn2 : w2.heap.size = n2 at *
    go_wp2_with fail
    refine (setOne_any _).mono ?_
    rintro e w5 ⟨a5, c5, rfl, b5⟩
    have X5 := (X2.alloc (.cells #[.int .i64 d, .int .i64 i] 24)).below b5 (by first | omega | (simp; done) | (simp; omega))
    have Y5 := Y2.below b5 (by first | omega | (simp; done) | (simp; omega))
    have B5 : Below w.heap.size w w5 := (B2.alloc (by first | omega | (simp; done) | (simp; omega)) _).trans (b5.mono (by first | omega | (simp; done) | (simp; omega)))
    have s5 := B5.size
    have l5 := X5.lt
    have m5 := Y5.lt
    clear b5 X2 Y2 B2
    obtain ⟨_, x0, x1, _, _⟩ := X5
    obtain ⟨_, y0, y1, _, _⟩ := Y5
    go_wp2
    go_ret
    refine ⟨by first | rfl | simp, ?_⟩
    repeat (first | exact B5 | refine below_drewN ?_ _ | refine Below.alloc ?_ (by first | omega | (simp; done) | (simp; omega)) _)
  by_cases hk : codeA ⟨x, y⟩ = 0
  rotate_left
  · have HF := Lib.hid (show setF xs ⟨x, y⟩ = (codeA ⟨x, y⟩, -1) by unfold setF; rw [if_pos hv, if_neg hk])
    have HO := Lib.hid (show setO xs ⟨x, y⟩ = [] by unfold setO; rw [HF.out, if_neg hk])
    rw [valA_00 hv] at C2
    generalize codeA ⟨x, y⟩ = d at *
    have hd1 : (d != 0) = true := by simpa using hk
    have hd2 : (d == 0) = false := by simpa using hk
    clear hv hk
    go_enter Try.func5, Try.ntmps5
    go_wp2_with fail
    refine (C1.out _ ((Below.refl _ _).alloc (Nat.le_refl _) _)).mono ?_
    rintro e w1 ⟨v1, rfl, A1, b1⟩
    have Z1 := (AB.new w x y 27).below b1 (by first | omega | (simp; done) | (simp; omega))
    have B1 : Below w.heap.size w w1 := ((Below.refl _ _).alloc (Nat.le_refl _) _).trans (b1.mono (by first | omega | (simp; done) | (simp; omega)))
    have s1 := B1.size
    have t1 := Z1.lt
    clear b1
    rw [HF.out]
    rw [HO.out] at A1
    obtain ⟨am, cm, rfl, _⟩ := A1.form rfl
    go_wp2_with fail
    refine (C2.out _ (B1.alloc s1 _)).mono ?_
    rintro e w2 ⟨rfl, b2⟩
    have X2 := (FBox.new w1 d (-1) 24).below b2 (by first | omega | (simp; done) | (simp; omega))
    have Z2 := (Z1.alloc (.cells #[.int .i64 d, .int .i64 (-1)] 24)).below b2 (by first | omega | (simp; done) | (simp; omega))
    have A2 := (A1.alloc (Nat.le_refl _) (.cells #[.int .i64 d, .int .i64 (-1)] 24)).below (b2.mono (by first | omega | (simp; done) | (simp; omega)))
    have B2 : Below w.heap.size w w2 := (B1.alloc s1 _).trans (b2.mono (by first | omega | (simp; done) | (simp; omega)))
    have s2 := B2.size
    have l2 := X2.lt
    have t2 := Z2.lt
    clear b2 Z1 A1 B1
    generalize w1.heap.size = n1 at *
    have Y2 := FBox.new w2 0 0 24
    have X2' := X2.alloc (.cells #[.int .i64 0, .int .i64 0] 24)
    have Z2' := Z2.alloc (.cells #[.int .i64 0, .int .i64 0] 24)
    have B2' : Below w.heap.size w (w2.alloc (.cells #[.int .i64 0, .int .i64 0] 24)) := B2.alloc s2 _
    clear A2 X2 Z2 B2
    generalize hn2 : w2.heap.size = n2 at *
    have z0 := Z2'.c0
    have z1 := Z2'.c1
    go_wp2_with fail
    refine (CC.out _).mono ?_
    rintro e w3 ⟨rfl, b3⟩
    have X3 := X2'.below b3 X2'.lt
    have Z3 := Z2'.below b3 Z2'.lt
    have Y3 := Y2.below b3 Y2.lt
    have B3 : Below w.heap.size w w3 := B2'.trans (b3.mono B2'.size)
    have s3 := B3.size
    have l3 := Y3.lt
    clear b3 X2' Z2' Y2 B2' z0 z1
    have z0 := Z3.c0
    have z1 := Z3.c1
    have z2 := Z3.lt
    have y0 := Y3.c0
    go_wp2_with fail
    refine (CC.out _).mono ?_
    rintro e w4 ⟨rfl, b4⟩
    have X4 := X3.below b4 X3.lt
    have Z4 := Z3.below b4 Z3.lt
    have Y4 := Y3.below b4 Y3.lt
    have B4 : Below w.heap.size w w4 := B3.trans (b4.mono B3.size)
    have s4 := B4.size
    clear b4 X3 Z3 Y3 B3 z0 z1 z2 y0
    go_wp2_with fail
    refine (newFault_any _ _ _).mono ?_
    rintro e w6 ⟨rfl, b6⟩
    have X6 := X4.below b6 X4.lt
    have Y6 := Y4.below b6 Y4.lt
    have B6 : Below w.heap.size w w6 := B4.trans (b6.mono B4.size)
    have s6 := B6.size
    have l6 := X6.lt
    have m6 := Y6.lt
    clear b6 X4 Z4 Y4 B4
    obtain ⟨_, y0, y1, yf0, yf1⟩ := Y6
    go_wp2_with fail
    refine (setOne_any _).mono ?_
    rintro e w5 ⟨a5, c5, rfl, b5⟩
    have hne : n1 ≠ n2 := by omega
    have X5 := ((X6.far (p := ⟨n2, 0, none⟩) hne (.int .i64 d)).far (p := ⟨n2, 1, none⟩) hne (.int .i64 (-1))).below b5 (by first | omega | (simp; done) | (simp; omega))
    have Y5 := (FBox.put ⟨m6, y0, y1, yf0, yf1⟩ d (-1)).below b5 (by first | omega | (simp; done) | (simp; omega))
    have B5 : Below w.heap.size w w5 := ((B6.setCell (by first | omega | (simp; done) | (simp; omega)) _).setCell (by first | omega | (simp; done) | (simp; omega)) _).trans (b5.mono (by first | omega | (simp; done) | (simp; omega)))
    have s5 := B5.size
    have l5 := X5.lt
    have m5 := Y5.lt
    clear b5 X6 y0 y1 yf0 yf1 B6
    obtain ⟨_, x0, x1, _, _⟩ := X5
    obtain ⟨_, y0, y1, _, _⟩ := Y5
    go_wp2
    go_ret
    refine ⟨by first | rfl | simp, ?_⟩
    repeat (first | exact B5 | refine below_drewN ?_ _ | refine Below.alloc ?_ (by first | omega | (simp; done) | (simp; omega)) _)
  have hg := good_of hv
  have HF0 : setF xs ⟨x, y⟩ = if 6 < (setL xs ⟨x, y⟩).length then (14, 0) else (0, 0) := by unfold setF; rw [if_pos hv, if_pos hk]
  have C3 := Lib.hid (fun W (hb : Below w.heap.size w W) => refSet_any _ xs x y W (H.out.up hb) hg.srt hg.len ⟨hx, hy⟩)
  rw [valA_00 hv] at C2
  rw [hk] at CC
  unfold SetPost at C3
  clear hg hv hk
  by_cases hl : 6 < (setL xs ⟨x, y⟩).length
  · have HF := Lib.hid (show setF xs ⟨x, y⟩ = (14, 0) by rw [HF0, if_pos hl])
    have HO := Lib.hid (show setO xs ⟨x, y⟩ = [] by unfold setO; rw [HF.out, if_neg (by simp)])
    clear HF0
    go_enter Try.func5, Try.ntmps5
    go_wp2_with fail
    refine (C1.out _ ((Below.refl _ _).alloc (Nat.le_refl _) _)).mono ?_
    rintro e w1 ⟨v1, rfl, A1, b1⟩
    have Z1 := (AB.new w x y 27).below b1 (by first | omega | (simp; done) | (simp; omega))
    have B1 : Below w.heap.size w w1 := ((Below.refl _ _).alloc (Nat.le_refl _) _).trans (b1.mono (by first | omega | (simp; done) | (simp; omega)))
    have s1 := B1.size
    have t1 := Z1.lt
    clear b1
    rw [HF.out]
    rw [HO.out] at A1
    obtain ⟨am, cm, rfl, _⟩ := A1.form rfl
    go_wp2_with fail
    refine (C2.out _ (B1.alloc s1 _)).mono ?_
    rintro e w2 ⟨rfl, b2⟩
    have X2 := (FBox.new w1 14 0 24).below b2 (by first | omega | (simp; done) | (simp; omega))
    have Z2 := (Z1.alloc (.cells #[.int .i64 14, .int .i64 0] 24)).below b2 (by first | omega | (simp; done) | (simp; omega))
    have A2 := (A1.alloc (Nat.le_refl _) (.cells #[.int .i64 14, .int .i64 0] 24)).below (b2.mono (by first | omega | (simp; done) | (simp; omega)))
    have B2 : Below w.heap.size w w2 := (B1.alloc s1 _).trans (b2.mono (by first | omega | (simp; done) | (simp; omega)))
    have s2 := B2.size
    have l2 := X2.lt
    have t2 := Z2.lt
    clear b2 Z1 A1 B1
    generalize w1.heap.size = n1 at *
    have Y2 := FBox.new w2 0 0 24
    have X2' := X2.alloc (.cells #[.int .i64 0, .int .i64 0] 24)
    have Z2' := Z2.alloc (.cells #[.int .i64 0, .int .i64 0] 24)
    have A2' := A2.alloc (by first | omega | (simp; done) | (simp; omega)) (.cells #[.int .i64 0, .int .i64 0] 24)
    have B2' : Below w.heap.size w (w2.alloc (.cells #[.int .i64 0, .int .i64 0] 24)) := B2.alloc s2 _
    have l22 : n1 < w2.heap.size := l2
    clear A2 X2 Z2 B2
    generalize hn2 : w2.heap.size = n2 at *
    have z0 := Z2'.c0
    have z1 := Z2'.c1
    go_wp2_with fail
    refine (CC.out _).mono ?_
    rintro e w3 ⟨rfl, b3⟩
    have X3 := X2'.below b3 X2'.lt
    have Z3 := Z2'.below b3 Z2'.lt
    have Y3 := Y2.below b3 Y2.lt
    have A3 := A2'.below (b3.mono (by have := X2'.lt; first | omega | (simp; done) | (simp; omega)))
    have B3 : Below w.heap.size w w3 := B2'.trans (b3.mono B2'.size)
    have s3 := B3.size
    have l3 := Y3.lt
    clear b3 X2' Z2' Y2 A2' B2' z0 z1
    have z0 := Z3.c0
    have z1 := Z3.c1
    have z2 := Z3.lt
    have y0 := Y3.c0
    go_wp2_with fail
    refine (C3.out _ B3).mono ?_
    rintro e w4 ⟨v4, rfl, A4, b4⟩
    have X4 := X3.below b4 X3.lt
    have Z4 := Z3.below b4 Z3.lt
    have Y4 := Y3.below b4 Y3.lt
    have M4 := A3.below (b4.mono (by have := X3.lt; first | omega | (simp; done) | (simp; omega)))
    have B4 : Below w.heap.size w w4 := B3.trans (b4.mono B3.size)
    have s4 := B4.size
    have l4 := Y4.lt
    have k4 := X4.lt
    clear b4 X3 Z3 Y3 A3 B3 z0 z1 z2 y0
    have y0 := Y4.c0
    obtain ⟨a4, c4, rfl, _⟩ := A4.form rfl
    clear A4
    generalize (setL xs ⟨x, y⟩).length = m at *
    have hlz : (6 : Int) < (m : Int) := by omega
    go_wp2_with fail
    refine (newFault_any _ _ _).mono ?_
    rintro e w6 ⟨rfl, b6⟩
    have X6 := X4.below b6 X4.lt
    have Y6 := Y4.below b6 Y4.lt
    have B6 : Below w.heap.size w w6 := B4.trans (b6.mono B4.size)
    have s6 := B6.size
    have l6 := X6.lt
    have m6 := Y6.lt
    clear b6 X4 Z4 Y4 M4 B4 y0
    obtain ⟨_, y0, y1, yf0, yf1⟩ := Y6
    go_wp2_with fail
    refine (setOne_any _).mono ?_
    rintro e w5 ⟨a5, c5, rfl, b5⟩
    have hne : n1 ≠ n2 := by omega
    have X5 := ((X6.far (p := ⟨n2, 0, none⟩) hne (.int .i64 14)).far (p := ⟨n2, 1, none⟩) hne (.int .i64 0)).below b5 (by first | omega | (simp; done) | (simp; omega))
    have Y5 := (FBox.put ⟨m6, y0, y1, yf0, yf1⟩ 14 0).below b5 (by first | omega | (simp; done) | (simp; omega))
    have B5 : Below w.heap.size w w5 := ((B6.setCell (by first | omega | (simp; done) | (simp; omega)) _).setCell (by first | omega | (simp; done) | (simp; omega)) _).trans (b5.mono (by first | omega | (simp; done) | (simp; omega)))
    have s5 := B5.size
    have l5 := X5.lt
    have m5 := Y5.lt
    clear b5 X6 y0 y1 yf0 yf1 B6
    obtain ⟨_, x0, x1, _, _⟩ := X5
    obtain ⟨_, y0, y1, _, _⟩ := Y5
    go_wp2
    go_ret
    refine ⟨by first | rfl | simp, ?_⟩
    repeat (first | exact B5 | refine below_drewN ?_ _ | refine Below.alloc ?_ (by first | omega | (simp; done) | (simp; omega)) _)
  · have HF := Lib.hid (show setF xs ⟨x, y⟩ = (0, 0) by rw [HF0, if_neg hl])
    have HO := Lib.hid (show setO xs ⟨x, y⟩ = setL xs ⟨x, y⟩ by unfold setO; rw [HF.out, if_pos rfl])
    clear HF0
    go_enter Try.func5, Try.ntmps5
    go_wp2_with fail
    refine (C1.out _ ((Below.refl _ _).alloc (Nat.le_refl _) _)).mono ?_
    rintro e w1 ⟨v1, rfl, A1, b1⟩
    have Z1 := (AB.new w x y 27).below b1 (by first | omega | (simp; done) | (simp; omega))
    have B1 : Below w.heap.size w w1 := ((Below.refl _ _).alloc (Nat.le_refl _) _).trans (b1.mono (by first | omega | (simp; done) | (simp; omega)))
    have s1 := B1.size
    have t1 := Z1.lt
    clear b1
    rw [HF.out]
    rw [HO.out] at A1
    obtain ⟨am, cm, rfl, _⟩ := A1.form rfl
    go_wp2_with fail
    refine (C2.out _ (B1.alloc s1 _)).mono ?_
    rintro e w2 ⟨rfl, b2⟩
    have X2 := (FBox.new w1 0 0 24).below b2 (by first | omega | (simp; done) | (simp; omega))
    have Z2 := (Z1.alloc (.cells #[.int .i64 0, .int .i64 0] 24)).below b2 (by first | omega | (simp; done) | (simp; omega))
    have A2 := (A1.alloc (Nat.le_refl _) (.cells #[.int .i64 0, .int .i64 0] 24)).below (b2.mono (by first | omega | (simp; done) | (simp; omega)))
    have B2 : Below w.heap.size w w2 := (B1.alloc s1 _).trans (b2.mono (by first | omega | (simp; done) | (simp; omega)))
    have s2 := B2.size
    have l2 := X2.lt
    have t2 := Z2.lt
    clear b2 Z1 A1 B1
    generalize w1.heap.size = n1 at *
    have Y2 := FBox.new w2 0 0 24
    have X2' := X2.alloc (.cells #[.int .i64 0, .int .i64 0] 24)
    have Z2' := Z2.alloc (.cells #[.int .i64 0, .int .i64 0] 24)
    have A2' := A2.alloc (by first | omega | (simp; done) | (simp; omega)) (.cells #[.int .i64 0, .int .i64 0] 24)
    have B2' : Below w.heap.size w (w2.alloc (.cells #[.int .i64 0, .int .i64 0] 24)) := B2.alloc s2 _
    have l22 : n1 < w2.heap.size := l2
    clear A2 X2 Z2 B2
    generalize hn2 : w2.heap.size = n2 at *
    have z0 := Z2'.c0
    have z1 := Z2'.c1
    go_wp2_with fail
    refine (CC.out _).mono ?_
    rintro e w3 ⟨rfl, b3⟩
    have X3 := X2'.below b3 X2'.lt
    have Z3 := Z2'.below b3 Z2'.lt
    have Y3 := Y2.below b3 Y2.lt
    have A3 := A2'.below (b3.mono (by have := X2'.lt; first | omega | (simp; done) | (simp; omega)))
    have B3 : Below w.heap.size w w3 := B2'.trans (b3.mono B2'.size)
    have s3 := B3.size
    have l3 := Y3.lt
    clear b3 X2' Z2' Y2 A2' B2' z0 z1
    have z0 := Z3.c0
    have z1 := Z3.c1
    have z2 := Z3.lt
    have y0 := Y3.c0
    go_wp2_with fail
    refine (C3.out _ B3).mono ?_
    rintro e w4 ⟨v4, rfl, A4, b4⟩
    have X4 := X3.below b4 X3.lt
    have Z4 := Z3.below b4 Z3.lt
    have Y4 := Y3.below b4 Y3.lt
    have M4 := A3.below (b4.mono (by have := X3.lt; first | omega | (simp; done) | (simp; omega)))
    have B4 : Below w.heap.size w w4 := B3.trans (b4.mono B3.size)
    have s4 := B4.size
    have l4 := Y4.lt
    have k4 := X4.lt
    clear b4 X3 Z3 Y3 A3 B3 z0 z1 z2 y0
    have y0 := Y4.c0
    obtain ⟨a4, c4, rfl, _⟩ := A4.form rfl
    clear A4
    have hlz : ¬ (6 : Int) < ((setL xs ⟨x, y⟩).length : Int) := by omega
    have hlz2 : decide ((6 : Int) < ((setL xs ⟨x, y⟩).length : Int)) = false := by simp; omega
    go_wp2_with fail
    refine (setOne_any _).mono ?_
    rintro e w5 ⟨a5, c5, rfl, b5⟩
    have X5 := X4.below b5 (by first | omega | (simp; done) | (simp; omega))
    have Y5 := Y4.below b5 (by first | omega | (simp; done) | (simp; omega))
    have Z5 := Z4.below b5 Z4.lt
    have M5 := M4.below (b5.mono (by first | omega | (simp; done) | (simp; omega)))
    have B5 : Below w.heap.size w w5 := B4.trans (b5.mono (by first | omega | (simp; done) | (simp; omega)))
    have s5 := B5.size
    have l5 := X5.lt
    have m5 := Y5.lt
    clear b5 X4 Y4 Z4 M4 B4 y0
    have y0 := Y5.c0
    have y1 := Y5.c1
    have x0 := X5.c0
    have x1 := X5.c1
    have z0 := Z5.c0
    have z1 := Z5.c1
    have z2 := Z5.lt
    go_wp2_with fail
    refine (C3.out _ (B5.alloc s5 _)).mono ?_
    rintro e w7 ⟨v7, rfl, A7, b7⟩
    have M7 := (M5.alloc (by first | omega | (simp; done) | (simp; omega)) (.cells #[.int .i64 0, .int .i64 0] 24)).below (b7.mono (by first | omega | (simp; done) | (simp; omega)))
    have B7 : Below w.heap.size w w7 := (B5.alloc s5 _).trans (b7.mono (by first | omega | (simp; done) | (simp; omega)))
    go_wp2_with fail
    refine (attrsSame_any _ _ (setL xs ⟨x, y⟩) _ _ _ M7 A7).mono ?_
    rintro e w8 ⟨rfl, q, rfl⟩
    go_wp2
    go_ret
    refine ⟨by first | rfl | simp, ?_⟩
    repeat (first | exact B7 | refine below_drewN ?_ _ | refine Below.alloc ?_ (by first | omega | (simp; done) | (simp; omega)) _)

end Go.Proofs.Ytgbmbhcoelijfaa
