/- The law ACLAllowedMatchesSpec returns true at every list and all numbers. Conditions: the slice's cells lie in memory as they read. -/
import Derived.Test.YtbmcfhojhngpkaaAclUserFault
namespace Go.Proofs.Ytbmcfhojhngpkaa
open Go.RowKit

theorem allV_nil : allV [] 2 2 1 = .tuple #[.bool true, .agg #[.int .i64 0, .int .i64 0]] := by
  rw [allV_ok rfl (by decide) (by decide)]; rfl
theorem allV_form (xs : List Ent) (o x m : Int) {c i : Int} {b : Bool} (h : allC xs o x m = (c, i)) (hb : allB xs o x m = b) : allV xs o x m = .tuple #[.bool b, .agg #[.int .i64 c, .int .i64 i]] := by
  unfold allV; rw [h, hb]
theorem usrF_zero {xs : List Ent} {o x : Int} (h : (usrF xs o x).1 = 0) : usrF xs o x = (0, 0) ∧ valF xs = (0, 0) := by
  unfold usrF at h ⊢
  by_cases hk : (valF xs).1 = 0 ∧ (usr o && usr x) = false
  · rw [if_pos hk] at h; cases h
  · rw [if_neg hk] at h ⊢; exact ⟨valF_zero h, valF_zero h⟩
theorem below_b {w w' : World} {B : Nat} (h : Below B w w') (hB : B ≤ w.heap.size) : B ≤ w'.heap.size := Nat.le_trans hB h.size

set_option maxHeartbeats 1600000 in
theorem lawAllowed_any (v : Value) (xs : List Ent) (o x m : Int) (w : World) (h : Acls w w.heap.size v xs) :
    Calls Try.prog 4 #[v, .int .i64 o, .int .i64 x, .int .i64 m] w fun e w' => e = .returned (.bool true) ∧ Below w.heap.size w w' := by
  have c1 := fun W (hb : Below w.heap.size w W) => allowed_any v xs o x m W ((h.below hb).more hb.size)
  have c2 := fun W (hb : Below w.heap.size w W) => userFault_any v xs o x W ((h.below hb).more hb.size)
  have c3 := fun W (hb : Below w.heap.size w W) => refAllowed_any v xs o x m W _ (h.below hb)
  have hfit : ∀ e ∈ xs, e.fits := by obtain ⟨_, _, _, _, _, hf, _⟩ := h; exact hf
  clear h
  generalize hu : usrF xs o x = p at c2
  obtain ⟨c, i⟩ := p
  by_cases hc : c = 0
  · subst hc
    have hz := usrF_zero (xs := xs) (o := o) (x := x) (by rw [hu])
    obtain rfl : i = 0 := by have := hz.1; rw [hu] at this; injection this
    cases hp : prm m with
    | false =>
      have hC : allC xs o x m = (3, -1) := by unfold allC; rw [hu, if_pos ⟨rfl, hp⟩]
      rw [allV_form xs o x m hC (b := false) (by unfold allB; rw [hC]; rfl)] at c1
      have C1 := Lib.hid c1
      have C2 := Lib.hid c2
      have m1 : (m != 1) = true := by unfold prm at hp; rw [decide_eq_false_iff_not] at hp; simp; omega
      have m2 : (m != 2) = true := by unfold prm at hp; rw [decide_eq_false_iff_not] at hp; simp; omega
      have m4 : (m != 4) = true := by unfold prm at hp; rw [decide_eq_false_iff_not] at hp; simp; omega
      have m8 : (m != 8) = true := by unfold prm at hp; rw [decide_eq_false_iff_not] at hp; simp; omega
      clear c1 c2 c3 hfit hu hz hp hC
      go_enter Try.func4, Try.ntmps4
      go_wp2_with fail
      refine (C1.out _ (Below.refl _ _)).mono ?_
      rintro e w1 ⟨rfl, b1⟩
      go_wp2_with fail
      refine (C2.out _ (b1.alloc b1.size _)).mono ?_
      rintro e w2 ⟨rfl, b2⟩
      have B2 : Below w.heap.size w w2 := (b1.alloc b1.size _).trans (b2.mono (by have := b1.size; simp; omega))
      have X1 := (FBox.new w1 3 (-1) 24).below b2 (by simp)
      clear b1 b2
      go_wp2_with fail
      refine (newFault_any _ _ _).mono ?_
      rintro e w3 ⟨rfl, b3⟩
      have B3 : Below w.heap.size w w3 := (B2.alloc B2.size _).trans (b3.mono (by have := B2.size; simp; omega))
      have X2 := (X1.alloc (.cells #[.int .i64 0, .int .i64 0] 24)).below b3 (by have := X1.lt; simp; omega)
      have Y2 := (FBox.new w2 0 0 24).below b3 (by simp)
      have hne := X1.lt
      clear b3
      have HX := Lib.hid (FBox.far (FBox.far X2 (p := ⟨w2.heap.size, 0, none⟩) (by simp; omega) (.int .i64 3)) (p := ⟨w2.heap.size, 1, none⟩) (by simp; omega) (.int .i64 (-1)))
      have HY := Lib.hid (FBox.put Y2 3 (-1))
      have hs3 : w2.heap.size < w3.heap.size := Y2.lt
      obtain ⟨l2, d0, d1, j0, j1⟩ := Y2
      clear X1 X2
      go_wp2_with fail
      refine (allowed_any _ [] 2 2 1 _ (Acls.none_ _ _)).mono ?_
      rw [allV_nil]
      rintro e w4 ⟨rfl, b4⟩
      have B4 : Below w.heap.size w w4 := ((B3.setCell (by have := B2.size; simp; omega) _).setCell (by have := B2.size; simp; omega) _).trans (b4.mono (by have := B3.size; simp; omega))
      have X4 := HX.out.below b4 HX.out.lt
      have Y4 := HY.out.below b4 HY.out.lt
      clear b4 HX HY l2 d0 d1 j0 j1
      obtain ⟨l1, a0, a1, k0, k1⟩ := X4
      obtain ⟨l2, d0, d1, j0, j1⟩ := Y4
      go_wp2
      go_ret
      refine ⟨rfl, ?_⟩
      have := B4.size
      repeat (first | exact B4 | refine Below.setCell ?_ (by first | omega | (simp; done) | (simp; omega)) _ | refine Below.alloc ?_ (by first | omega | (simp; done) | (simp; omega)) _ | refine Below.drew ?_)
    | true =>
      have hC : allC xs o x m = (0, 0) := by unfold allC; rw [hu, if_neg (fun k => by rw [hp] at k; cases k.2)]
      rw [allV_form xs o x m hC (b := dec xs o x m) (by unfold allB; rw [hC]; simp)] at c1
      simp only [decR_eq hp (fun e he => ok_of (hfit e he) ((valF_ok hz.2).2 e he))] at c3
      generalize dec xs o x m = r at c1 c3
      have C1 := Lib.hid c1
      have C2 := Lib.hid c2
      have C3 := Lib.hid c3
      have hm : m = 1 ∨ m = 2 ∨ m = 4 ∨ m = 8 := by unfold prm at hp; rwa [decide_eq_true_iff] at hp
      clear c1 c2 c3 hfit hu hz hp hC
      rcases hm with rfl | rfl | rfl | rfl
      all_goals
        go_enter Try.func4, Try.ntmps4
        go_wp2_with fail
        refine (C1.out _ (Below.refl _ _)).mono ?_
        rintro e w1 ⟨rfl, b1⟩
        go_wp2_with fail
        refine (C2.out _ (b1.alloc b1.size _)).mono ?_
        rintro e w2 ⟨rfl, b2⟩
        have B2 : Below w.heap.size w w2 := (b1.alloc b1.size _).trans (b2.mono (by have := b1.size; simp; omega))
        have X1 := (FBox.new w1 0 0 24).below b2 (by simp)
        have HX := Lib.hid (X1.alloc (.cells #[.int .i64 0, .int .i64 0] 24))
        have hne := X1.lt
        clear b1 b2 X1
        go_wp2_with fail
        refine (allowed_any _ [] 2 2 1 _ (Acls.none_ _ _)).mono ?_
        rw [allV_nil]
        rintro e w4 ⟨rfl, b4⟩
        have B4 : Below w.heap.size w w4 := (B2.alloc B2.size _).trans (b4.mono (by have := B2.size; simp; omega))
        have X4 := HX.out.below b4 HX.out.lt
        have Y4 := (FBox.new w2 0 0 24).below b4 (by simp)
        clear b4 HX
        obtain ⟨l1, a0, a1, k0, k1⟩ := X4
        obtain ⟨l2, d0, d1, j0, j1⟩ := Y4
        go_wp2_with fail
        refine (C3.out _ (B4.alloc B4.size _)).mono ?_
        rintro e w5 ⟨rfl, rfl⟩
        go_wp2
        go_ret
        refine ⟨by first | rfl | simp, ?_⟩
        have := B4.size
        repeat (first | exact B4 | refine Below.setCell ?_ (by first | omega | (simp; done) | (simp; omega)) _ | refine Below.alloc ?_ (by first | omega | (simp; done) | (simp; omega)) _ | refine Below.drew ?_)
  · have hC : allC xs o x m = (c, i) := by unfold allC; rw [hu, if_neg (fun k => hc k.1)]
    rw [allV_form xs o x m hC (b := false) (by unfold allB; rw [hC]; simp [hc])] at c1
    have C1 := Lib.hid c1
    have C2 := Lib.hid c2
    have hc1 : (c != 0) = true := by simpa using hc
    have hc2 : (c == 0) = false := by simpa using hc
    clear c1 c2 c3 hfit hu hC hc
    go_enter Try.func4, Try.ntmps4
    go_wp2_with fail
    refine (C1.out _ (Below.refl _ _)).mono ?_
    rintro e w1 ⟨rfl, b1⟩
    go_wp2_with fail
    refine (C2.out _ (b1.alloc b1.size _)).mono ?_
    rintro e w2 ⟨rfl, b2⟩
    have B2 : Below w.heap.size w w2 := (b1.alloc b1.size _).trans (b2.mono (by have := b1.size; simp; omega))
    have X1 := (FBox.new w1 c i 24).below b2 (by simp)
    have HX := Lib.hid (X1.alloc (.cells #[.int .i64 c, .int .i64 i] 24))
    have hne := X1.lt
    clear b1 b2 X1
    go_wp2_with fail
    refine (allowed_any _ [] 2 2 1 _ (Acls.none_ _ _)).mono ?_
    rw [allV_nil]
    rintro e w4 ⟨rfl, b4⟩
    have B4 : Below w.heap.size w w4 := (B2.alloc B2.size _).trans (b4.mono (by have := B2.size; simp; omega))
    have X4 := HX.out.below b4 HX.out.lt
    have Y4 := (FBox.new w2 c i 24).below b4 (by simp)
    clear b4 HX
    obtain ⟨l1, a0, a1, k0, k1⟩ := X4
    obtain ⟨l2, d0, d1, j0, j1⟩ := Y4
    go_wp2
    go_ret
    refine ⟨by first | rfl | simp, ?_⟩
    have := B4.size
    repeat (first | exact B4 | refine Below.setCell ?_ (by first | omega | (simp; done) | (simp; omega)) _ | refine Below.alloc ?_ (by first | omega | (simp; done) | (simp; omega)) _ | refine Below.drew ?_)

end Go.Proofs.Ytbmcfhojhngpkaa
