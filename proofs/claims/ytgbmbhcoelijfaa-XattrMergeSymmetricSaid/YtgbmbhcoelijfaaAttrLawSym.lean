/- The law XattrMergeSymmetric returns true at every three lists. Conditions: the slices' cells lie in memory as they read. -/
import Derived.Test.YtgbmbhcoelijfaaAttrSym
import Derived.Test.YtgbmbhcoelijfaaAttrLawMerge0
import Derived.Test.YtgbmbhcoelijfaaAttrSame
namespace Go.Proofs.Ytgbmbhcoelijfaa
open Go.RowKit

theorem Ats.cast {w : World} {B : Nat} {v : Value} {xs ys : List Attr} (h : Ats w B v xs) (e : xs = ys) : Ats w B v ys := e ▸ h

set_option maxRecDepth 100000 in
set_option maxHeartbeats 4000000 in
theorem lawSym_any (v0 : Value) (o : List Attr) (v1 : Value) (a : List Attr) (v2 : Value) (b : List Attr) (w : World) (h0 : Ats w w.heap.size v0 o) (h1 : Ats w w.heap.size v1 a) (h2 : Ats w w.heap.size v2 b) :
    Calls Try.prog 9 #[v0, v1, v2] w fun e w' => e = .returned (.bool true) ∧ Below w.heap.size w w' := by
  have C1 := Lib.hid (merge_any v0 o v1 a v2 b w h0 h1 h2)
  have C2 := Lib.hid (fun W (hb : Below w.heap.size w W) => merge_any v0 o v2 b v1 a W (h0.up hb) (h2.up hb) (h1.up hb))
  have C3 := Lib.hid (fun W (hb : Below w.heap.size w W) => merge_any v0 o v1 a v0 o W (h0.up hb) (h1.up hb) (h0.up hb))
  have CM := Lib.hid (fun W (v : Value) (h : Ats W W.heap.size v [⟨bA, bB⟩]) => mergeOne_any v W h)
  have H1 := Lib.hid h1
  obtain ⟨a0, c0, rfl, hc0⟩ := h0.form rfl
  obtain ⟨a1, c1, rfl, hc1⟩ := h1.form rfl
  obtain ⟨a2, c2, rfl, hc2⟩ := h2.form rfl
  clear h0 h1 h2
  unfold MergePost faultV at C1 C2 C3
  unfold OneMerge at CM
  by_cases hv : (mrgF o a b).1 = 0
  rotate_left
  · have e1 : mrgO o a b = [] := by unfold mrgO; rw [if_neg hv]
    rw [e1] at C1
    have HV := Lib.hid hv
    clear e1 hv
    go_enter Try.func9, Try.ntmps9
    go_wp2_with fail
    refine C1.out.mono ?_
    rintro e w1 ⟨vm, vl, rfl, A1, L1, b1⟩
    obtain ⟨am, cm, rfl, _⟩ := A1.form rfl
    obtain ⟨al, cl, rfl, _⟩ := L1.form rfl
    have s1 := b1.size
    generalize hf1 : (mrgF o a b).1 = f1 at *
    generalize hi1 : (mrgF o a b).2 = i1 at *
    have X1 := FBox.new w1 f1 i1 24
    have HF1 := Lib.hid hf1
    have HI1 := Lib.hid hi1
    clear hf1 hi1
    go_wp2_with fail
    refine (C2.out _ (b1.alloc s1 _)).mono ?_
    rintro e w2 ⟨vn, vk, rfl, A2, L2, b2⟩
    obtain ⟨an, cn, rfl, _⟩ := A2.form rfl
    obtain ⟨ak, ck, rfl, _⟩ := L2.form rfl
    generalize hf2 : (mrgF o b a).1 = f2 at *
    generalize hi2 : (mrgF o b a).2 = i2 at *
    have HF2 := Lib.hid hf2
    have HI2 := Lib.hid hi2
    clear hf2 hi2
    have X2 := X1.below b2 (by first | omega | (simp; done) | (simp; omega))
    have M2 := (A1.alloc (Nat.le_refl _) (.cells #[.int .i64 f1, .int .i64 i1] 24)).below (b2.mono (by first | omega | (simp; done) | (simp; omega)))
    have N2 := (L1.alloc (Nat.le_refl _) (.cells #[.int .i64 f1, .int .i64 i1] 24)).below (b2.mono (by first | omega | (simp; done) | (simp; omega)))
    have B2 : Below w.heap.size w w2 := (b1.alloc s1 _).trans (b2.mono (by first | omega | (simp; done) | (simp; omega)))
    have s2 := B2.size
    have l2 := X2.lt
    clear b1 b2 A1 L1 X1
    generalize hn1 : w1.heap.size = n1 at *
    clear hn1
    go_wp2_with fail
    refine (CM.out _ _ ((ats_one _ _ (by first | omega | (simp; done) | (simp; omega)) ⟨bA, bB⟩ ⟨bA_fits, bB_fits⟩ _).more (by first | omega | (simp; done) | (simp; omega)))).mono ?_
    rintro e w3 ⟨a3, c3, u3, rfl, b3⟩
    have X3 := ((X2.alloc (.cells #[.int .i64 f2, .int .i64 i2] 24)).alloc (.cells #[.string bA, .string bB] 27)).below b3 (by first | omega | (simp; done) | (simp; omega))
    have Y3 := ((FBox.new w2 f2 i2 24).alloc (.cells #[.string bA, .string bB] 27)).below b3 (by first | omega | (simp; done) | (simp; omega))
    have M3 := ((M2.alloc (by first | omega | (simp; done) | (simp; omega)) (.cells #[.int .i64 f2, .int .i64 i2] 24)).alloc (by first | omega | (simp; done) | (simp; omega)) (.cells #[.string bA, .string bB] 27)).below (b3.mono (by first | omega | (simp; done) | (simp; omega)))
    have N3 := ((N2.alloc (by first | omega | (simp; done) | (simp; omega)) (.cells #[.int .i64 f2, .int .i64 i2] 24)).alloc (by first | omega | (simp; done) | (simp; omega)) (.cells #[.string bA, .string bB] 27)).below (b3.mono (by first | omega | (simp; done) | (simp; omega)))
    have P3 := ((A2.alloc (Nat.le_refl _) (.cells #[.int .i64 f2, .int .i64 i2] 24)).alloc (by first | omega | (simp; done) | (simp; omega)) (.cells #[.string bA, .string bB] 27)).below (b3.mono (by first | omega | (simp; done) | (simp; omega)))
    have Q3 := ((L2.alloc (Nat.le_refl _) (.cells #[.int .i64 f2, .int .i64 i2] 24)).alloc (by first | omega | (simp; done) | (simp; omega)) (.cells #[.string bA, .string bB] 27)).below (b3.mono (by first | omega | (simp; done) | (simp; omega)))
    have B3 : Below w.heap.size w w3 := ((B2.alloc s2 _).alloc (by first | omega | (simp; done) | (simp; omega)) _).trans (b3.mono (by first | omega | (simp; done) | (simp; omega)))
    have s3 := B3.size
    have l3 := X3.lt
    have m3 := Y3.lt
    clear b3 X2 M2 N2 A2 L2 B2
    generalize w2.heap.size = n2 at *
    obtain ⟨_, x0, x1, _, _⟩ := X3
    obtain ⟨_, y0, y1, _, _⟩ := Y3
    have hd1 : (f1 != 0) = true := by simpa using HV.out
    have hd2 : (f1 == 0) = false := by simpa using HV.out
    clear M3 N3 P3 Q3
    go_wp2
    go_ret
    refine ⟨by first | rfl | simp, ?_⟩
    repeat (first | exact B3 | refine below_drewN ?_ _ | refine Below.alloc ?_ (by first | omega | (simp; done) | (simp; omega)) _)
  by_cases hk : (mrgF o b a).1 = 0
  rotate_left
  · have e2 : mrgO o b a = [] := by unfold mrgO; rw [if_neg hk]
    rw [e2] at C2
    have HV := Lib.hid hv
    have HK := Lib.hid hk
    clear e2 hv hk
    go_enter Try.func9, Try.ntmps9
    go_wp2_with fail
    refine C1.out.mono ?_
    rintro e w1 ⟨vm, vl, rfl, A1, L1, b1⟩
    obtain ⟨am, cm, rfl, _⟩ := A1.form rfl
    obtain ⟨al, cl, rfl, _⟩ := L1.form rfl
    have s1 := b1.size
    generalize hf1 : (mrgF o a b).1 = f1 at *
    generalize hi1 : (mrgF o a b).2 = i1 at *
    have X1 := FBox.new w1 f1 i1 24
    have HF1 := Lib.hid hf1
    have HI1 := Lib.hid hi1
    clear hf1 hi1
    go_wp2_with fail
    refine (C2.out _ (b1.alloc s1 _)).mono ?_
    rintro e w2 ⟨vn, vk, rfl, A2, L2, b2⟩
    obtain ⟨an, cn, rfl, _⟩ := A2.form rfl
    obtain ⟨ak, ck, rfl, _⟩ := L2.form rfl
    generalize hf2 : (mrgF o b a).1 = f2 at *
    generalize hi2 : (mrgF o b a).2 = i2 at *
    have HF2 := Lib.hid hf2
    have HI2 := Lib.hid hi2
    clear hf2 hi2
    have X2 := X1.below b2 (by first | omega | (simp; done) | (simp; omega))
    have M2 := (A1.alloc (Nat.le_refl _) (.cells #[.int .i64 f1, .int .i64 i1] 24)).below (b2.mono (by first | omega | (simp; done) | (simp; omega)))
    have N2 := (L1.alloc (Nat.le_refl _) (.cells #[.int .i64 f1, .int .i64 i1] 24)).below (b2.mono (by first | omega | (simp; done) | (simp; omega)))
    have B2 : Below w.heap.size w w2 := (b1.alloc s1 _).trans (b2.mono (by first | omega | (simp; done) | (simp; omega)))
    have s2 := B2.size
    have l2 := X2.lt
    clear b1 b2 A1 L1 X1
    generalize hn1 : w1.heap.size = n1 at *
    clear hn1
    go_wp2_with fail
    refine (CM.out _ _ ((ats_one _ _ (by first | omega | (simp; done) | (simp; omega)) ⟨bA, bB⟩ ⟨bA_fits, bB_fits⟩ _).more (by first | omega | (simp; done) | (simp; omega)))).mono ?_
    rintro e w3 ⟨a3, c3, u3, rfl, b3⟩
    have X3 := ((X2.alloc (.cells #[.int .i64 f2, .int .i64 i2] 24)).alloc (.cells #[.string bA, .string bB] 27)).below b3 (by first | omega | (simp; done) | (simp; omega))
    have Y3 := ((FBox.new w2 f2 i2 24).alloc (.cells #[.string bA, .string bB] 27)).below b3 (by first | omega | (simp; done) | (simp; omega))
    have M3 := ((M2.alloc (by first | omega | (simp; done) | (simp; omega)) (.cells #[.int .i64 f2, .int .i64 i2] 24)).alloc (by first | omega | (simp; done) | (simp; omega)) (.cells #[.string bA, .string bB] 27)).below (b3.mono (by first | omega | (simp; done) | (simp; omega)))
    have N3 := ((N2.alloc (by first | omega | (simp; done) | (simp; omega)) (.cells #[.int .i64 f2, .int .i64 i2] 24)).alloc (by first | omega | (simp; done) | (simp; omega)) (.cells #[.string bA, .string bB] 27)).below (b3.mono (by first | omega | (simp; done) | (simp; omega)))
    have P3 := ((A2.alloc (Nat.le_refl _) (.cells #[.int .i64 f2, .int .i64 i2] 24)).alloc (by first | omega | (simp; done) | (simp; omega)) (.cells #[.string bA, .string bB] 27)).below (b3.mono (by first | omega | (simp; done) | (simp; omega)))
    have Q3 := ((L2.alloc (Nat.le_refl _) (.cells #[.int .i64 f2, .int .i64 i2] 24)).alloc (by first | omega | (simp; done) | (simp; omega)) (.cells #[.string bA, .string bB] 27)).below (b3.mono (by first | omega | (simp; done) | (simp; omega)))
    have B3 : Below w.heap.size w w3 := ((B2.alloc s2 _).alloc (by first | omega | (simp; done) | (simp; omega)) _).trans (b3.mono (by first | omega | (simp; done) | (simp; omega)))
    have s3 := B3.size
    have l3 := X3.lt
    have m3 := Y3.lt
    clear b3 X2 M2 N2 A2 L2 B2
    generalize w2.heap.size = n2 at *
    obtain ⟨_, x0, x1, _, _⟩ := X3
    obtain ⟨_, y0, y1, _, _⟩ := Y3
    have hd1 : (f2 != 0) = true := by simpa using HK.out
    have hd2 : (f2 == 0) = false := by simpa using HK.out
    have hz1 : f1 = 0 := HV.out
    clear M3 N3 P3 Q3
    subst hz1
    generalize (mrgO o a b).length = nm at *
    by_cases hm : nm = 0
    · have hm1 : ((nm : Int) == 0) = true := by simpa using hm
      clear hm
      go_wp2
      go_ret
      refine ⟨by first | rfl | simp, ?_⟩
      repeat (first | exact B3 | refine below_drewN ?_ _ | refine Below.alloc ?_ (by first | omega | (simp; done) | (simp; omega)) _)
    · have hm1 : ((nm : Int) == 0) = false := by simpa using hm
      clear hm
      go_wp2
      go_ret
      refine ⟨by first | rfl | simp, ?_⟩
      repeat (first | exact B3 | refine below_drewN ?_ _ | refine Below.alloc ?_ (by first | omega | (simp; done) | (simp; omega)) _)
  obtain ⟨go, ga, gb, hF1, hO1, hC1⟩ := mrgF_ok hv
  obtain ⟨_, _, _, hF2, hO2, hC2⟩ := mrgF_ok hk
  obtain ⟨hF3, hO3, hC3⟩ := mrg_same_F go ga
  have hcs := cflL_swap o a b
  have HLS := Lib.hid (mrgL_swap (o := o) (a := a) (b := b))
  rw [hO1, hC1] at C1
  rw [hO2, hC2, ← hcs] at C2
  rw [hF3, hO3, hC3] at C3
  have HZ1 := Lib.hid (show (mrgF o a b).1 = 0 from hv)
  have HZ2 := Lib.hid (show (mrgF o b a).1 = 0 from hk)
  clear hF1 hO1 hC1 hF2 hO2 hC2 hF3 hO3 hC3 hcs go ga gb hv hk
  go_enter Try.func9, Try.ntmps9
  go_wp2_with fail
  refine C1.out.mono ?_
  rintro e w1 ⟨vm, vl, rfl, A1, L1, b1⟩
  obtain ⟨am, cm, rfl, _⟩ := A1.form rfl
  obtain ⟨al, cl, rfl, _⟩ := L1.form rfl
  have s1 := b1.size
  generalize hf1 : (mrgF o a b).1 = f1 at *
  generalize hi1 : (mrgF o a b).2 = i1 at *
  have X1 := FBox.new w1 f1 i1 24
  have HF1 := Lib.hid hf1
  have HI1 := Lib.hid hi1
  clear hf1 hi1
  go_wp2_with fail
  refine (C2.out _ (b1.alloc s1 _)).mono ?_
  rintro e w2 ⟨vn, vk, rfl, A2, L2, b2⟩
  obtain ⟨an, cn, rfl, _⟩ := A2.form rfl
  obtain ⟨ak, ck, rfl, _⟩ := L2.form rfl
  generalize hf2 : (mrgF o b a).1 = f2 at *
  generalize hi2 : (mrgF o b a).2 = i2 at *
  have HF2 := Lib.hid hf2
  have HI2 := Lib.hid hi2
  clear hf2 hi2
  have X2 := X1.below b2 (by first | omega | (simp; done) | (simp; omega))
  have M2 := (A1.alloc (Nat.le_refl _) (.cells #[.int .i64 f1, .int .i64 i1] 24)).below (b2.mono (by first | omega | (simp; done) | (simp; omega)))
  have N2 := (L1.alloc (Nat.le_refl _) (.cells #[.int .i64 f1, .int .i64 i1] 24)).below (b2.mono (by first | omega | (simp; done) | (simp; omega)))
  have B2 : Below w.heap.size w w2 := (b1.alloc s1 _).trans (b2.mono (by first | omega | (simp; done) | (simp; omega)))
  have s2 := B2.size
  have l2 := X2.lt
  clear b1 b2 A1 L1 X1
  generalize hn1 : w1.heap.size = n1 at *
  clear hn1
  go_wp2_with fail
  refine (CM.out _ _ ((ats_one _ _ (by first | omega | (simp; done) | (simp; omega)) ⟨bA, bB⟩ ⟨bA_fits, bB_fits⟩ _).more (by first | omega | (simp; done) | (simp; omega)))).mono ?_
  rintro e w3 ⟨a3, c3, u3, rfl, b3⟩
  have X3 := ((X2.alloc (.cells #[.int .i64 f2, .int .i64 i2] 24)).alloc (.cells #[.string bA, .string bB] 27)).below b3 (by first | omega | (simp; done) | (simp; omega))
  have Y3 := ((FBox.new w2 f2 i2 24).alloc (.cells #[.string bA, .string bB] 27)).below b3 (by first | omega | (simp; done) | (simp; omega))
  have M3 := ((M2.alloc (by first | omega | (simp; done) | (simp; omega)) (.cells #[.int .i64 f2, .int .i64 i2] 24)).alloc (by first | omega | (simp; done) | (simp; omega)) (.cells #[.string bA, .string bB] 27)).below (b3.mono (by first | omega | (simp; done) | (simp; omega)))
  have N3 := ((N2.alloc (by first | omega | (simp; done) | (simp; omega)) (.cells #[.int .i64 f2, .int .i64 i2] 24)).alloc (by first | omega | (simp; done) | (simp; omega)) (.cells #[.string bA, .string bB] 27)).below (b3.mono (by first | omega | (simp; done) | (simp; omega)))
  have P3 := ((A2.alloc (Nat.le_refl _) (.cells #[.int .i64 f2, .int .i64 i2] 24)).alloc (by first | omega | (simp; done) | (simp; omega)) (.cells #[.string bA, .string bB] 27)).below (b3.mono (by first | omega | (simp; done) | (simp; omega)))
  have Q3 := ((L2.alloc (Nat.le_refl _) (.cells #[.int .i64 f2, .int .i64 i2] 24)).alloc (by first | omega | (simp; done) | (simp; omega)) (.cells #[.string bA, .string bB] 27)).below (b3.mono (by first | omega | (simp; done) | (simp; omega)))
  have B3 : Below w.heap.size w w3 := ((B2.alloc s2 _).alloc (by first | omega | (simp; done) | (simp; omega)) _).trans (b3.mono (by first | omega | (simp; done) | (simp; omega)))
  have s3 := B3.size
  have l3 := X3.lt
  have m3 := Y3.lt
  clear b3 X2 M2 N2 A2 L2 B2
  generalize w2.heap.size = n2 at *
  obtain ⟨_, x0, x1, _, _⟩ := X3
  obtain ⟨_, y0, y1, _, _⟩ := Y3
  have hz1 : f1 = 0 := HZ1.out
  have hz2 : f2 = 0 := HZ2.out
  subst hz1 hz2
  go_wp2_with fail
  refine (C3.out _ (B3.alloc s3 _)).mono ?_
  rintro e w4 ⟨vo, vp, rfl, A4, L4, b4⟩
  obtain ⟨ao, co, rfl, _⟩ := A4.form rfl
  obtain ⟨ap, cp, rfl, _⟩ := L4.form (n := 0) rfl
  have M4 := Lib.hid (((M3.alloc (by first | omega | (simp; done) | (simp; omega)) (.cells #[.int .i64 0, .int .i64 0] 24)).below (b4.mono (by first | omega | (simp; done) | (simp; omega)))).alloc (by have h9 := b4.size; simp at h9; first | omega | (simp; done) | (simp; omega)) (.cells #[.int .i64 0, .int .i64 0] 24))
  have N4 := Lib.hid (((N3.alloc (by first | omega | (simp; done) | (simp; omega)) (.cells #[.int .i64 0, .int .i64 0] 24)).below (b4.mono (by first | omega | (simp; done) | (simp; omega)))).alloc (by have h9 := b4.size; simp at h9; first | omega | (simp; done) | (simp; omega)) (.cells #[.int .i64 0, .int .i64 0] 24))
  have P4 := Lib.hid (((P3.alloc (by first | omega | (simp; done) | (simp; omega)) (.cells #[.int .i64 0, .int .i64 0] 24)).below (b4.mono (by first | omega | (simp; done) | (simp; omega)))).alloc (by have h9 := b4.size; simp at h9; first | omega | (simp; done) | (simp; omega)) (.cells #[.int .i64 0, .int .i64 0] 24))
  have Q4 := Lib.hid (((Q3.alloc (by first | omega | (simp; done) | (simp; omega)) (.cells #[.int .i64 0, .int .i64 0] 24)).below (b4.mono (by first | omega | (simp; done) | (simp; omega)))).alloc (by have h9 := b4.size; simp at h9; first | omega | (simp; done) | (simp; omega)) (.cells #[.int .i64 0, .int .i64 0] 24))
  have B4 : Below w.heap.size w w4 := (B3.alloc s3 _).trans (b4.mono (by first | omega | (simp; done) | (simp; omega)))
  have s4 := B4.size
  have G4 := Lib.hid (A4.alloc (Nat.le_refl _) (.cells #[.int .i64 0, .int .i64 0] 24))
  have H4 := Lib.hid ((H1.out.up B4).alloc (Nat.le_refl _) (.cells #[.int .i64 0, .int .i64 0] 24))
  clear b4 M3 N3 P3 Q3 A4 L4
  go_wp2_with fail
  refine (strsSame_any _ _ (cflL o a b) _ _ _ N4.out Q4.out).mono ?_
  rintro e w5 ⟨rfl, q, rfl⟩
  by_cases hl : (cflL o a b) = []
  · have P5 := P4.out.cast (HLS.out hl).symm
    have P6 := Lib.hid P5
    have hl0 : (cflL o a b).length = 0 := by rw [hl]; rfl
    clear hl P5
    generalize (cflL o a b).length = nl at *
    subst hl0
    go_wp2_with fail
    refine (attrsSame_any _ _ (mrgL o a b) _ _ _ (M4.out.drewN q) (P6.out.drewN q)).mono ?_
    rintro e w6 ⟨rfl, q2, rfl⟩
    go_wp2_with fail
    refine (attrsSame_any _ _ a _ _ _ (G4.out.drewN (q + q2)) (H4.out.drewN (q + q2))).mono ?_
    rintro e w7 ⟨rfl, q3, rfl⟩
    go_wp2
    go_ret
    refine ⟨by first | rfl | simp, ?_⟩
    repeat (first | exact B4 | refine below_drewN ?_ _ | refine Below.alloc ?_ (by first | omega | (simp; done) | (simp; omega)) _)
  · have hl0 : ¬ (cflL o a b).length = 0 := by have := List.length_pos_iff.2 hl; omega
    have hl1 : (0 : Int) < ((cflL o a b).length : Int) := by have := List.length_pos_iff.2 hl; omega
    clear hl
    generalize (cflL o a b).length = nl at *
    go_wp2_with fail
    refine (attrsSame_any _ _ a _ _ _ (G4.out.drewN q) (H4.out.drewN q)).mono ?_
    rintro e w7 ⟨rfl, q3, rfl⟩
    go_wp2
    go_ret
    refine ⟨by first | rfl | simp, ?_⟩
    repeat (first | exact B4 | refine below_drewN ?_ _ | refine Below.alloc ?_ (by first | omega | (simp; done) | (simp; omega)) _)

end Go.Proofs.Ytgbmbhcoelijfaa
