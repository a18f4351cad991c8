/- The law's own lookup, and the law FstreeLookupMatchesSpec at every tree and string. Conditions: the library's variable that bounds a search holds an int; the string is of at most the model's longest length; the cells lie in memory as they read. -/
import Derived.Test.YtglaohaeaofnhaaDoorFsLook
import Derived.Test.YtglaohaeaofnhaaDoorFsVTree
import Derived.Test.YtglaohaeaofnhaaDoorPathRefSplit
import Derived.Test.YtglaohaeaofnhaaDoorFsEmpty
namespace Go.Proofs.YtglaohaeaofnhaaDoor
open Go.RowKit

theorem splitF_zero {p : ByteArray} (h : (splitF p).1 = 0) : (splitF p).2 = 0 := by
  unfold splitF at h ⊢
  by_cases h1 : 100 < p.size
  · rw [if_pos h1]
  · rw [if_neg h1] at h ⊢
    cases hd : p.data.toList with
    | nil => rfl
    | cons c r =>
      rw [hd] at h
      simp only at h ⊢
      by_cases h2 : c = 47
      · rw [if_pos h2] at h ⊢
        by_cases h3 : r = []
        · rw [if_pos h3]
        · rw [if_neg h3] at h ⊢
          exact (compFault_ok h).2.1
      · rw [if_neg h2]
theorem resT_cases (t : Tr) : ∀ (xs : List ByteArray) (n i : Nat), ((resT t xs n i).2.1 = 0 ∧ (resT t xs n i).2.2 = 0) ∨ ((resT t xs n i).2.1 ≠ 0 ∧ (resT t xs n i).1 = 0)
  | [], n, i => .inl ⟨rfl, rfl⟩
  | x :: r, n, i => by
    unfold resT
    split
    · exact .inr ⟨by show (8 : Int) ≠ 0; decide, rfl⟩
    · split
      · exact resT_cases t r _ _
      · exact .inr ⟨by show (6 : Int) ≠ 0; decide, rfl⟩

set_option maxRecDepth 100000 in
set_option maxHeartbeats 3200000 in
theorem specLookup_any (a : Option Addr) (c : Nat) (t : Tr) (p : ByteArray) (w : World) (hp : p.size ≤ maxLen) (h : Nods w w.heap.size a c t) :
    Calls Tryd.prog 6 #[.agg #[.slice a t.length c], .string p] w fun e w' => e = .returned (.tuple #[.int .i64 ((lookF t p).1 : Nat), faultV (lookF t p).2.1 (lookF t p).2.2]) ∧ Below w.heap.size w w' := by
  have C1 := Lib.hid (fun W (hb : Below w.heap.size w W) => vtree_any a c t W (h.up hb))
  have C2 := Lib.hid (fun W => refSplit_any p W hp)
  have T0 := Lib.hid (show One ((w.alloc (.cells #[.slice a t.length c] 24)).alloc (.cells #[.int .i64 0, .int .i64 0] 26)) w.heap.size (.slice a t.length c) from (One.new w _ _).alloc _)
  have F0 := Lib.hid (show FBox ((w.alloc (.cells #[.slice a t.length c] 24)).alloc (.cells #[.int .i64 0, .int .i64 0] 26)) (w.heap.size + 1) 0 0 from (FBox.new (w.alloc _) 0 0 _).at_ (by simp))
  have B0 := Lib.hid (show Below w.heap.size w ((w.alloc (.cells #[.slice a t.length c] 24)).alloc (.cells #[.int .i64 0, .int .i64 0] 26)) from ((Below.refl _ _).alloc (Nat.le_refl _) _).alloc (by first | omega | (simp; done) | (simp; omega)) _)
  unfold SplitPost at C2
  unfold faultV at C1
  by_cases hq : (valT t).1 = 0
  · have hz := valT_zero hq
    obtain ⟨hd, p4⟩ := valT_ok hq
    have O1 := Lib.hid (Pass.ok1 hd (p4.mono (by omega)))
    rw [hz] at C1
    have hbd := splitF_bound (p := p)
    by_cases hs : (splitF p).1 = 0
    · rw [lookF_res hq hs]
      rw [hs, splitF_zero hs] at C2
      have HRC := resT_cases t (splitL p) 0 0
      have C3 := Lib.hid (fun W v (hb : Below w.heap.size w W) (hx : Strs W W.heap.size v (splitL p)) => refResolve_any a c t v (splitL p) W O1.out (h.up hb) hx)
      clear hq hz hd p4 hs h hbd O1
      generalize splitL p = xs at *
      generalize (resT t xs 0 0).1 = rn at *
      generalize (resT t xs 0 0).2.1 = rc at *
      generalize (resT t xs 0 0).2.2 = ri at *
      go_enter Tryd.func6, Tryd.ntmps6
      go_wp2_with fail
      refine (C1.out _ B0.out).mono ?_
      rintro e W1 ⟨rfl, b1⟩
      have T1 := Lib.hid ((T0.out.below b1 T0.out.lt).alloc (.cells #[.int .i64 0, .int .i64 0] 26))
      have F1 := Lib.hid ((F0.out.below b1 F0.out.lt).alloc (.cells #[.int .i64 0, .int .i64 0] 26))
      have X1 := Lib.hid (FBox.new W1 0 0 26)
      have B1 := Lib.hid ((B0.out.trans (b1.mono B0.out.size)).alloc (Nat.le_trans B0.out.size b1.size) (.cells #[.int .i64 0, .int .i64 0] 26))
      have hF1 : w.heap.size + 1 < W1.heap.size := (F0.out.below b1 F0.out.lt).lt
      clear b1
      go_wp2_with fail
      refine (C2.out _).mono ?_
      rintro e W2 ⟨v, rfl, hxs, b2, hlow⟩
      obtain ⟨l8, x0, x1, z0, z1⟩ := X1.out.below b2 X1.out.lt
      have X2 := Lib.hid ((X1.out.below b2 X1.out.lt).put 0 0)
      have T2 := Lib.hid (((T1.out.below b2 T1.out.lt).far (p := ⟨W1.heap.size, 0, none⟩) (by simp; omega) (.int .i64 0)).far (p := ⟨W1.heap.size, 1, none⟩) (by simp; omega) (.int .i64 0))
      have F2 := Lib.hid (((F1.out.below b2 F1.out.lt).far (p := ⟨W1.heap.size, 0, none⟩) (by simp; omega) (.int .i64 0)).far (p := ⟨W1.heap.size, 1, none⟩) (by simp; omega) (.int .i64 0))
      have B2 := Lib.hid (((B1.out.trans (b2.mono B1.out.size)).setCell (p := ⟨W1.heap.size, 0, none⟩) (by simp; omega) (.int .i64 0)).setCell (p := ⟨W1.heap.size, 1, none⟩) (by simp; omega) (.int .i64 0))
      have S2 := Lib.hid (show Strs ((W2.setCell ⟨W1.heap.size, 0, none⟩ (.int .i64 0)).setCell ⟨W1.heap.size, 1, none⟩ (.int .i64 0)) ((W2.setCell ⟨W1.heap.size, 0, none⟩ (.int .i64 0)).setCell ⟨W1.heap.size, 1, none⟩ (.int .i64 0)).heap.size v xs from by
        have h9 := (hxs.setLow hlow (p := ⟨W1.heap.size, 0, none⟩) (by simp) (.int .i64 0)).setLow hlow (p := ⟨W1.heap.size, 1, none⟩) (by simp) (.int .i64 0)
        simpa using h9)
      have tc := (T1.out.below b2 T1.out.lt).c0
      have tl := (T1.out.below b2 T1.out.lt).lt
      have tc2 := T2.out.c0
      have y0 := X2.out.c0
      have y1 := X2.out.c1
      have hne1 : ¬ w.heap.size = W1.heap.size := by omega
      have hne2 : ¬ w.heap.size + 1 = W1.heap.size := by omega
      clear b2 hlow hxs C1 C2 T0 F0 B0 T1 F1 X1 B1
      go_wp2_with fail
      clear x0 x1 z0 z1 tc tl tc2 y0 y1
      refine (C3.out _ v B2.out S2.out).mono ?_
      rintro e W4 ⟨rfl, b4⟩
      have B4 := Lib.hid (B2.out.trans (b4.mono B2.out.size))
      obtain ⟨l9, a0, a1, f0, f1⟩ := F2.out.below b4 F2.out.lt
      obtain ⟨l7, c0, c1, _, _⟩ := X2.out.below b4 X2.out.lt
      have F4 := Lib.hid (F2.out.below b4 F2.out.lt)
      have hs4 := B4.out.size
      clear b4 C3
      rcases HRC with ⟨hr0, hr2⟩ | ⟨hr0, hr1⟩
      · subst hr0 hr2
        go_wp2
        go_region
        all_goals
          go_wp2
          exact bodyPost_ret (v := .tuple #[.int .i64 rn, faultV 0 0]) (by simp [results, Tryd.results6, faultV, go_sem, a0, a1, l9]) rfl ⟨rfl, by repeat (first | exact B4.out | refine Below.setCell ?_ (by first | omega | (simp; done) | (simp; omega)) _ | refine Below.alloc ?_ (by first | omega | (simp; done) | (simp; omega)) _ | refine Below.drew ?_)⟩
      · subst hr1
        have hrb : (rc != 0) = true := by simpa using hr0
        clear a0 a1 f0 f1 l9
        go_wp2_with fail
        refine (newFault_any _ _ _).mono ?_
        rintro e W5 ⟨rfl, b5⟩
        obtain ⟨l9, a0, a1, f0, f1⟩ := F4.out.below b5 F4.out.lt
        have B5 := Lib.hid (B4.out.trans (b5.mono B4.out.size))
        clear b5
        go_wp2
        exact bodyPost_ret (v := .tuple #[.int .i64 0, faultV rc ri]) (by simp [results, Tryd.results6, faultV, go_sem, a0, a1, l9]) rfl ⟨rfl, (B5.out.setCell (by first | omega | (simp; done) | (simp; omega)) _).setCell (by first | omega | (simp; done) | (simp; omega)) _⟩
    · rw [lookF_split hq hs]
      have hs1 : ((splitF p).1 != 0) = true := by simpa using hs
      have hs2 : ((splitF p).1 == 0) = false := by simpa using hs
      clear hq hz hd p4 hs h O1
      generalize splitL p = xs at *
      generalize (splitF p).1 = sq at *
      generalize (splitF p).2 = sr at *
      have hwr : IntKind.i64.wrap (-1 - sr) = -1 - sr := IntWalk.i64_in _ (by omega)
      go_enter Tryd.func6, Tryd.ntmps6
      go_wp2_with fail
      refine (C1.out _ B0.out).mono ?_
      rintro e W1 ⟨rfl, b1⟩
      have F1 := Lib.hid ((F0.out.below b1 F0.out.lt).alloc (.cells #[.int .i64 0, .int .i64 0] 26))
      have X1 := Lib.hid (FBox.new W1 0 0 26)
      have B1 := Lib.hid ((B0.out.trans (b1.mono B0.out.size)).alloc (Nat.le_trans B0.out.size b1.size) (.cells #[.int .i64 0, .int .i64 0] 26))
      have hF1 : w.heap.size + 1 < W1.heap.size := (F0.out.below b1 F0.out.lt).lt
      clear b1
      go_wp2_with fail
      refine (C2.out _).mono ?_
      rintro e W2 ⟨v, rfl, _, b2, _⟩
      obtain ⟨l8, x0, x1, z0, z1⟩ := X1.out.below b2 X1.out.lt
      have X2 := Lib.hid ((X1.out.below b2 X1.out.lt).put sq sr)
      have F2 := Lib.hid (((F1.out.below b2 F1.out.lt).far (p := ⟨W1.heap.size, 0, none⟩) (by simp; omega) (.int .i64 sq)).far (p := ⟨W1.heap.size, 1, none⟩) (by simp; omega) (.int .i64 sr))
      have B2 := Lib.hid (((B1.out.trans (b2.mono B1.out.size)).setCell (p := ⟨W1.heap.size, 0, none⟩) (by simp; omega) (.int .i64 sq)).setCell (p := ⟨W1.heap.size, 1, none⟩) (by simp; omega) (.int .i64 sr))
      have y0 := X2.out.c0
      have y1 := X2.out.c1
      have hne1 : ¬ w.heap.size = W1.heap.size := by omega
      have hne2 : ¬ w.heap.size + 1 = W1.heap.size := by omega
      clear b2 C1 C2 T0 F0 B0 F1 X1 B1
      go_wp2_with fail
      clear x0 x1 z0 z1 y0 y1
      refine (newFault_any _ _ _).mono ?_
      rintro e W5 ⟨rfl, b5⟩
      obtain ⟨l9, a0, a1, f0, f1⟩ := F2.out.below b5 F2.out.lt
      have B5 := Lib.hid (B2.out.trans (b5.mono B2.out.size))
      clear b5
      go_wp2
      exact bodyPost_ret (v := .tuple #[.int .i64 0, faultV sq (-1 - sr)]) (by simp [results, Tryd.results6, faultV, go_sem, a0, a1, l9]) rfl ⟨rfl, (B5.out.setCell (by first | omega | (simp; done) | (simp; omega)) _).setCell (by first | omega | (simp; done) | (simp; omega)) _⟩
  · rw [lookF_bad hq]
    have hq1 : ((valT t).1 != 0) = true := by simpa using hq
    have hq2 : ((valT t).1 == 0) = false := by simpa using hq
    clear hq h C2
    generalize (valT t).1 = q at *
    generalize (valT t).2 = r at *
    go_enter Tryd.func6, Tryd.ntmps6
    go_wp2_with fail
    refine (C1.out _ B0.out).mono ?_
    rintro e W1 ⟨rfl, b1⟩
    have F1 := Lib.hid (F0.out.below b1 F0.out.lt)
    have B1 := Lib.hid (B0.out.trans (b1.mono B0.out.size))
    obtain ⟨l9, a0, a1, f0, f1⟩ := F1.out
    have hs1 := B1.out.size
    clear b1
    go_wp2
    go_region
    all_goals
      go_wp2
      exact bodyPost_ret (v := .tuple #[.int .i64 0, faultV q r]) (by simp [results, Tryd.results6, faultV, go_sem, a0, a1, l9]) rfl ⟨rfl, by repeat (first | exact B1.out | refine Below.setCell ?_ (by first | omega | (simp; done) | (simp; omega)) _ | refine Below.alloc ?_ (by first | omega | (simp; done) | (simp; omega)) _ | refine Below.drew ?_)⟩

def slashA : ByteArray := ⟨#[47, 97]⟩
theorem look_slashA : lookF emptyT slashA = (0, 6, 0) := by decide +kernel

set_option maxRecDepth 100000 in
set_option maxHeartbeats 3200000 in
theorem lawLook_any (a : Option Addr) (c : Nat) (t : Tr) (p : ByteArray) (w : World) (gm : GM w) (hp : p.size ≤ maxLen) (h : Nods w w.heap.size a c t) :
    Calls Tryd.prog 3 #[.agg #[.slice a t.length c], .string p] w fun e w' => e = .returned (.bool true) ∧ Below w.heap.size w w' := by
  have C1 := Lib.hid (fun W (hb : Below w.heap.size w W) => lookup_any a c t p W (gm.below hb) hp (h.up hb))
  have C2 := Lib.hid (fun W (hb : Below w.heap.size w W) => specLookup_any a c t p W hp (h.up hb))
  have C3 := Lib.hid (fun W b (hb : Below w.heap.size w W) (hn : Nods W W.heap.size (some ⟨b, 0, none⟩) 1 emptyT) => lookup_any (some ⟨b, 0, none⟩) 1 emptyT slashA W (gm.below hb) (by decide) hn)
  rw [look_slashA] at C3
  have T0 := Lib.hid (One.new w (.slice a t.length c) 24)
  have B0 := Lib.hid ((Below.refl w.heap.size w).alloc (Nat.le_refl _) (.cells #[.slice a t.length c] 24))
  unfold faultV at C1 C2 C3
  clear gm h
  generalize (lookF t p).1 = rn at *
  generalize (lookF t p).2.1 = q at *
  generalize (lookF t p).2.2 = r at *
  go_enter Tryd.func3, Tryd.ntmps3
  go_wp2_with fail
  refine (C1.out _ B0.out).mono ?_
  rintro e W1 ⟨rfl, b1⟩
  have T1 := Lib.hid ((T0.out.below b1 T0.out.lt).alloc (.cells #[.int .i64 q, .int .i64 r] 26))
  have B1 := Lib.hid ((B0.out.trans (b1.mono B0.out.size)).alloc (Nat.le_trans B0.out.size b1.size) (.cells #[.int .i64 q, .int .i64 r] 26))
  have F1 := Lib.hid (FBox.new W1 q r 26)
  have tc := (T0.out.below b1 T0.out.lt).c0
  have tl := (T0.out.below b1 T0.out.lt).lt
  clear b1
  go_wp2_with fail
  refine (C2.out _ B1.out).mono ?_
  rintro e W2 ⟨rfl, b2⟩
  have B2 := Lib.hid ((B1.out.trans (b2.mono B1.out.size)).alloc (Nat.le_trans B1.out.size b2.size) (.cells #[.int .i64 q, .int .i64 r] 26))
  have F2 := Lib.hid ((F1.out.below b2 F1.out.lt).alloc (.cells #[.int .i64 q, .int .i64 r] 26))
  have X2 := Lib.hid (FBox.new W2 q r 26)
  clear b2 tc tl
  go_wp2_with fail
  refine (empty_any _).mono ?_
  rintro e W3 ⟨eb, rfl, hn3, b3⟩
  have B3 := Lib.hid (B2.out.trans (b3.mono B2.out.size))
  have F3 := Lib.hid (F2.out.below b3 F2.out.lt)
  have X3 := Lib.hid (X2.out.below b3 X2.out.lt)
  have HE := Lib.hid (C3.out _ eb B3.out hn3)
  clear b3 hn3
  go_wp2_with fail
  refine HE.out.mono ?_
  rintro e W4 ⟨rfl, b4⟩
  have B4 := Lib.hid ((B3.out.trans (b4.mono B3.out.size)).alloc (Nat.le_trans B3.out.size b4.size) (.cells #[.int .i64 6, .int .i64 0] 26))
  have F4 := Lib.hid ((F3.out.below b4 F3.out.lt).alloc (.cells #[.int .i64 6, .int .i64 0] 26))
  have X4 := Lib.hid ((X3.out.below b4 X3.out.lt).alloc (.cells #[.int .i64 6, .int .i64 0] 26))
  have Y4 := Lib.hid (FBox.new W4 6 0 26)
  clear b4 HE C1 C2 C3
  go_wp2_with fail
  generalize W4.alloc (.cells #[.int .i64 6, .int .i64 0] 26) = W5 at *
  have K := Lib.hid (fun y (hy : Below W5.heap.size W5 y) => (show Below W5.heap.size W5 y ∧ y.cell? ⟨W1.heap.size, 0, none⟩ = some (.int .i64 q) ∧ y.cell? ⟨W1.heap.size, 1, none⟩ = some (.int .i64 r) ∧ y.cell? ⟨W2.heap.size, 0, none⟩ = some (.int .i64 q) ∧ y.cell? ⟨W2.heap.size, 1, none⟩ = some (.int .i64 r) ∧ y.cell? ⟨W4.heap.size, 0, none⟩ = some (.int .i64 6) ∧ y.cell? ⟨W4.heap.size, 1, none⟩ = some (.int .i64 0) from
    ⟨hy, (F4.out.below hy F4.out.lt).c0, (F4.out.below hy F4.out.lt).c1, (X4.out.below hy X4.out.lt).c0, (X4.out.below hy X4.out.lt).c1, (Y4.out.below hy Y4.out.lt).c0, (Y4.out.below hy Y4.out.lt).c1⟩))
  go_region_held3 (fun y => Below W5.heap.size W5 y ∧ y.cell? ⟨W1.heap.size, 0, none⟩ = some (.int .i64 q) ∧ y.cell? ⟨W1.heap.size, 1, none⟩ = some (.int .i64 r) ∧ y.cell? ⟨W2.heap.size, 0, none⟩ = some (.int .i64 q) ∧ y.cell? ⟨W2.heap.size, 1, none⟩ = some (.int .i64 r) ∧ y.cell? ⟨W4.heap.size, 0, none⟩ = some (.int .i64 6) ∧ y.cell? ⟨W4.heap.size, 1, none⟩ = some (.int .i64 0))
    (first | exact K.out _ hR | exact K.out _ (Below.refl _ _).drew)
    ((go_at_call 8; have hs0 := And.left ‹Below W5.heap.size W5 _ ∧ _›; refine (newFault_any _ _ _).mono ?_; rintro e y ⟨rfl, hb9⟩; have hR := hs0.trans (hb9.mono hs0.size)))
  all_goals
    have hz := And.left ‹Below W5.heap.size W5 _ ∧ _›
    go_wp2
    go_ret
    exact ⟨rfl, B4.out.trans (hz.mono B4.out.size)⟩

end Go.Proofs.YtglaohaeaofnhaaDoor
