/- The law XattrGetMatchesSpec returns true at every list and name. Conditions: the slice's cells lie in memory as they read; the name is of at most the model's longest length. -/
import Derived.Test.YtgbmbhcoelijfaaAttrConst
namespace Go.Proofs.Ytgbmbhcoelijfaa
open Go.RowKit

theorem bB_test : (bB.toList == [98]) = true := by rw [Lib.toList_data]; decide
theorem getV_form (xs : List Attr) (nm : ByteArray) : ∃ S c i, getV xs nm = .tuple #[.string S, .agg #[.int .i64 c, .int .i64 i]] := ⟨_, _, _, rfl⟩

set_option maxRecDepth 100000 in
set_option maxHeartbeats 1600000 in
theorem lawGet_any (v : Value) (xs : List Attr) (nm : ByteArray) (w : World) (h : Ats w w.heap.size v xs) (_ : nm.size ≤ maxLen) :
    Calls Try.prog 4 #[v, .string nm] w fun e w' => e = .returned (.bool true) ∧ Below w.heap.size w w' := by
  have c1 := get_any v xs nm w h
  have C2 := Lib.hid (fun W (hb : Below w.heap.size w W) => refValidate_any v xs W (h.up hb))
  have C3 := Lib.hid (fun W (hb : Below w.heap.size w W) => attrValue_any v xs nm W _ (h.up hb))
  have C4 := Lib.hid (fun W (v : Value) (h : Ats W W.heap.size v [⟨bA, bB⟩]) => by have := get_any v [⟨bA, bB⟩] bA W h; rwa [getV_ab] at this)
  obtain ⟨a, cc, rfl, hcap⟩ := h.form rfl
  clear h
  unfold valAV faultV at C2
  unfold getV faultV at c1
  by_cases hv : (valA xs).1 = 0
  · have e1 : getS xs nm = getA xs nm := by unfold getS; rw [if_pos hv]
    have e2 : getF xs nm = if getA xs nm = ByteArray.empty then (6, 0) else (0, 0) := by unfold getF; rw [if_pos hv]
    have e3 := valA_00 hv
    rw [e1, e2] at c1
    rw [e3] at C2
    clear e1 e2 e3 hv
    generalize getA xs nm = g at *
    have hbb := bB_test
    by_cases hg : g = ByteArray.empty
    · have hz1 : g.toList.isEmpty = true := by rw [isEmpty_str]; simpa using hg
      rw [if_pos hg] at c1
      have C1 := Lib.hid c1
      clear c1 hg
      go_enter Try.func4, Try.ntmps4
      go_wp2_with fail
      refine C1.out.mono ?_
      rintro e w1 ⟨rfl, b1⟩
      have s1 := b1.size
      go_wp2_with fail
      refine (C2.out _ (b1.alloc s1 _)).mono ?_
      rintro e w2 ⟨rfl, b2⟩
      have X2 := (FBox.new w1 6 0 24).below b2 (by first | omega | (simp; done) | (simp; omega))
      have B2 : Below w.heap.size w w2 := (b1.alloc s1 _).trans (b2.mono (by first | omega | (simp; done) | (simp; omega)))
      have s2 := B2.size
      have l2 := X2.lt
      clear b1 b2
      generalize w1.heap.size = n1 at *
      go_wp2_with fail
      refine (C3.out _ (B2.alloc s2 _)).mono ?_
      rintro e _ ⟨rfl, rfl⟩
      go_wp2_with fail
      refine (newFault_any _ _ _).mono ?_
      rintro e w3 ⟨rfl, b3⟩
      have X3 := (X2.alloc (.cells #[.int .i64 0, .int .i64 0] 24)).below b3 (by first | omega | (simp; done) | (simp; omega))
      have Y3 := (FBox.new w2 0 0 24).below b3 (by first | omega | (simp; done) | (simp; omega))
      have B3 : Below w.heap.size w w3 := (B2.alloc s2 _).trans (b3.mono (by first | omega | (simp; done) | (simp; omega)))
      have s3 := B3.size
      have l3 := Y3.lt
      clear b3
      generalize w2.heap.size = n2 at *
      obtain ⟨_, y0, y1, yf0, yf1⟩ := Y3
      go_wp2_with fail
      refine (C4.out _ _ ((ats_one _ _ (by first | omega | (simp; done) | (simp; omega)) ⟨bA, bB⟩ ⟨bA_fits, bB_fits⟩ _).more (by first | omega | (simp; done) | (simp; omega)))).mono ?_
      rintro e w4 ⟨rfl, b4⟩
      have X4 := (((X3.far (p := ⟨n2, 0, none⟩) (by first | omega | (simp; done) | (simp; omega)) (.int .i64 6)).far (p := ⟨n2, 1, none⟩) (by first | omega | (simp; done) | (simp; omega)) (.int .i64 0)).alloc (.cells #[.string bA, .string bB] 27)).below b4 (by first | omega | (simp; done) | (simp; omega))
      have Y4 := (((FBox.put ⟨l3, y0, y1, yf0, yf1⟩ 6 0)).alloc (.cells #[.string bA, .string bB] 27)).below b4 (by first | omega | (simp; done) | (simp; omega))
      have B4 : Below w.heap.size w w4 := (((B3.setCell (by first | omega | (simp; done) | (simp; omega)) _).setCell (by first | omega | (simp; done) | (simp; omega)) _).alloc (by first | omega | (simp; done) | (simp; omega)) _).trans (b4.mono (by first | omega | (simp; done) | (simp; omega)))
      have s4 := B4.size
      have l4 := Y4.lt
      have m4 := X4.lt
      clear b4 X3 y0 y1 yf0 yf1
      obtain ⟨_, x0, x1, _, _⟩ := X4
      obtain ⟨_, y0, y1, _, _⟩ := Y4
      go_wp2
      go_ret
      refine ⟨by first | rfl | simp, ?_⟩
      repeat (first | exact B4 | refine below_drewN ?_ _ | refine Below.alloc ?_ (by first | omega | (simp; done) | (simp; omega)) _)
    · have hz1 : g.toList.isEmpty = false := by rw [isEmpty_str]; simpa using hg
      rw [if_neg hg] at c1
      have C1 := Lib.hid c1
      clear c1 hg
      go_enter Try.func4, Try.ntmps4
      go_wp2_with fail
      refine C1.out.mono ?_
      rintro e w1 ⟨rfl, b1⟩
      have s1 := b1.size
      go_wp2_with fail
      refine (C2.out _ (b1.alloc s1 _)).mono ?_
      rintro e w2 ⟨rfl, b2⟩
      have X2 := (FBox.new w1 0 0 24).below b2 (by first | omega | (simp; done) | (simp; omega))
      have B2 : Below w.heap.size w w2 := (b1.alloc s1 _).trans (b2.mono (by first | omega | (simp; done) | (simp; omega)))
      have s2 := B2.size
      have l2 := X2.lt
      clear b1 b2
      generalize w1.heap.size = n1 at *
      go_wp2_with fail
      refine (C3.out _ (B2.alloc s2 _)).mono ?_
      rintro e _ ⟨rfl, rfl⟩
      have Y2 := FBox.new w2 0 0 24
      generalize hn2 : w2.heap.size = n2 at *
      go_wp2_with fail
      refine (C4.out _ _ ((ats_one _ _ (by first | omega | (simp; done) | (simp; omega)) ⟨bA, bB⟩ ⟨bA_fits, bB_fits⟩ _).more (by first | omega | (simp; done) | (simp; omega)))).mono ?_
      rintro e w4 ⟨rfl, b4⟩
      have X4 := ((X2.alloc (.cells #[.int .i64 0, .int .i64 0] 24)).alloc (.cells #[.string bA, .string bB] 27)).below b4 (by first | omega | (simp; done) | (simp; omega))
      have Y4 := (Y2.alloc (.cells #[.string bA, .string bB] 27)).below b4 (by first | omega | (simp; done) | (simp; omega))
      have B4 : Below w.heap.size w w4 := ((B2.alloc (by first | omega | (simp; done) | (simp; omega)) _).alloc (by first | omega | (simp; done) | (simp; omega)) _).trans (b4.mono (by first | omega | (simp; done) | (simp; omega)))
      have s4 := B4.size
      have l4 := Y4.lt
      have m4 := X4.lt
      clear b4 X2 Y2
      obtain ⟨_, x0, x1, _, _⟩ := X4
      obtain ⟨_, y0, y1, _, _⟩ := Y4
      go_wp2_with fail
      refine (C3.out _ (B4.alloc s4 _)).mono ?_
      rintro e _ ⟨rfl, rfl⟩
      go_wp2
      go_ret
      refine ⟨by first | rfl | simp, ?_⟩
      repeat (first | exact B4 | refine below_drewN ?_ _ | refine Below.alloc ?_ (by first | omega | (simp; done) | (simp; omega)) _)
  · have hbb := bB_test
    have e1 : getS xs nm = ByteArray.empty := by unfold getS; rw [if_neg hv]
    have e2 : getF xs nm = valA xs := by unfold getF; rw [if_neg hv]
    rw [e1, e2] at c1
    clear e1 e2
    generalize (valA xs).1 = d at *
    generalize (valA xs).2 = i at *
    have hd1 : (d != 0) = true := by simpa using hv
    have hd2 : (d == 0) = false := by simpa using hv
    have hz1 : ByteArray.empty.toList.isEmpty = true := by rw [isEmpty_str]; simp
    have C1 := Lib.hid c1
    clear c1 hv
    go_enter Try.func4, Try.ntmps4
    go_wp2_with fail
    refine C1.out.mono ?_
    rintro e w1 ⟨rfl, b1⟩
    have s1 := b1.size
    go_wp2_with fail
    refine (C2.out _ (b1.alloc s1 _)).mono ?_
    rintro e w2 ⟨rfl, b2⟩
    have X2 := (FBox.new w1 d i 24).below b2 (by first | omega | (simp; done) | (simp; omega))
    have B2 : Below w.heap.size w w2 := (b1.alloc s1 _).trans (b2.mono (by first | omega | (simp; done) | (simp; omega)))
    have s2 := B2.size
    have l2 := X2.lt
    clear b1 b2
    generalize w1.heap.size = n1 at *
    have Y2 := FBox.new w2 d i 24
    generalize hn2 : w2.heap.size = n2 at *
    go_wp2_with fail
    refine (C4.out _ _ ((ats_one _ _ (by first | omega | (simp; done) | (simp; omega)) ⟨bA, bB⟩ ⟨bA_fits, bB_fits⟩ _).more (by first | omega | (simp; done) | (simp; omega)))).mono ?_
    rintro e w4 ⟨rfl, b4⟩
    have X4 := ((X2.alloc (.cells #[.int .i64 d, .int .i64 i] 24)).alloc (.cells #[.string bA, .string bB] 27)).below b4 (by first | omega | (simp; done) | (simp; omega))
    have Y4 := (Y2.alloc (.cells #[.string bA, .string bB] 27)).below b4 (by first | omega | (simp; done) | (simp; omega))
    have B4 : Below w.heap.size w w4 := ((B2.alloc (by first | omega | (simp; done) | (simp; omega)) _).alloc (by first | omega | (simp; done) | (simp; omega)) _).trans (b4.mono (by first | omega | (simp; done) | (simp; omega)))
    have s4 := B4.size
    have l4 := Y4.lt
    have m4 := X4.lt
    clear b4 X2 Y2
    obtain ⟨_, x0, x1, _, _⟩ := X4
    obtain ⟨_, y0, y1, _, _⟩ := Y4
    go_wp2
    go_ret
    refine ⟨by first | rfl | simp, ?_⟩
    repeat (first | exact B4 | refine below_drewN ?_ _ | refine Below.alloc ?_ (by first | omega | (simp; done) | (simp; omega)) _)

end Go.Proofs.Ytgbmbhcoelijfaa
