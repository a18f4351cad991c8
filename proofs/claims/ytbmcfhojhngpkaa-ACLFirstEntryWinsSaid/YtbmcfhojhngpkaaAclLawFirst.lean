/- The law ACLFirstEntryWins returns true at every list and all numbers. Conditions: the slice's cells lie in memory as they read. -/
import Derived.Test.YtbmcfhojhngpkaaAclUserFault
import Derived.Test.YtbmcfhojhngpkaaAclOwn
namespace Go.Proofs.Ytbmcfhojhngpkaa
open Go.RowKit

/-- What the law asks of the four answers: the fault's code, then whether. -/
structure First (n : Nat) (eq : Bool) (c : Int) (was : Bool) (ca : Int) (A : Bool) (cb : Int) (B : Bool) (cc : Int) (C : Bool) : Prop where
  way : (c ≠ 0 ∧ ca ≠ 0 ∧ cb ≠ 0 ∧ was = false) ∨ (c = 0 ∧ n = 6 ∧ ca = 2 ∧ cb = 2) ∨ (c = 0 ∧ n < 6 ∧ ca = 0 ∧ cb = 0 ∧ cc = 0 ∧ A = true ∧ B = false ∧ (eq = true ∨ C = was))

theorem valF_cons_bad {e : Ent} {xs : List Ent} (h : (valF xs).1 ≠ 0) : (valF (e :: xs)).1 ≠ 0 := by
  have key : ∀ (l : List Ent) (i j : Nat), (scanF l i).1 = (scanF l j).1 := by
    intro l
    induction l with
    | nil => intro i j; rfl
    | cons e l ih =>
      intro i j
      unfold scanF
      by_cases h0 : codeE e = 0
      · rw [if_pos h0, if_pos h0]; exact ih _ _
      · rw [if_neg h0, if_neg h0]
  unfold valF at h ⊢
  by_cases h6 : 6 < (e :: xs).length
  · rw [if_pos h6]; decide
  · rw [if_neg h6]
    rw [if_neg (by simp at h6; omega)] at h
    unfold scanF
    by_cases h0 : codeE e = 0
    · rw [if_pos h0, key xs _ 0]; exact h
    · rw [if_neg h0]; exact h0
theorem valF_cons_many {e : Ent} {xs : List Ent} (h : xs.length = 6) : valF (e :: xs) = (2, 0) := by
  unfold valF; rw [if_pos (by simp; omega)]
theorem allC_val {xs : List Ent} {o x m : Int} (ho : usr o = true) (hx : usr x = true) (hm : prm m = true) : allC xs o x m = valF xs := by
  have h1 : usrF xs o x = valF xs := by unfold usrF; rw [if_neg (fun k => by rw [ho, hx] at k; cases k.2)]
  unfold allC; rw [h1, if_neg (fun k => by rw [hm] at k; cases k.2)]
theorem first_of {xs : List Ent} {o x y m : Int} (ho : usr o = true) (hx : usr x = true) (hy1 : 1 ≤ y) (hy7 : y ≤ 7) (hm : prm m = true) :
    First xs.length (decide (x = y)) (allC xs o x m).1 (allB xs o x m) (allC (⟨y, m, 0⟩ :: xs) o y m).1 (allB (⟨y, m, 0⟩ :: xs) o y m)
      (allC (⟨y, 0, m⟩ :: xs) o y m).1 (allB (⟨y, 0, m⟩ :: xs) o y m) (allC (⟨y, m, 0⟩ :: xs) o x m).1 (allB (⟨y, m, 0⟩ :: xs) o x m) := by
  have hy : usr y = true := by unfold usr; rw [decide_eq_true_iff]; omega
  have hy0 : ¬ y = 0 := by omega
  unfold allB
  rw [allC_val ho hx hm, allC_val ho hy hm, allC_val ho hy hm, allC_val ho hx hm]
  by_cases hc : (valF xs).1 = 0
  · have hz := valF_zero hc
    obtain ⟨hl, hA⟩ := valF_ok hz
    by_cases h6 : xs.length = 6
    · exact ⟨.inr (.inl ⟨hc, h6, by rw [valF_cons_many h6], by rw [valF_cons_many h6]⟩)⟩
    · obtain ⟨b1, b2, b3, b4, b5, b6, b7⟩ := bit_self hm
      have f1 : (Ent.mk y m 0).fits := by unfold Ent.fits i64; simp; omega
      have f2 : (Ent.mk y 0 m).fits := by unfold Ent.fits i64; simp; omega
      have k1 : codeE ⟨y, m, 0⟩ = 0 := ok_code f1 ⟨by simp; omega, by simp; omega, by simp; omega, by simp; omega, by simp, by simp, b2, by simp; omega⟩
      have k2 : codeE ⟨y, 0, m⟩ = 0 := ok_code f2 ⟨by simp; omega, by simp; omega, by simp, by simp, by simp; omega, by simp; omega, b3, by simp; omega⟩
      have g1 : valF (⟨y, m, 0⟩ :: xs) = (0, 0) := valF_good (by simp; omega) (by intro e he; rcases List.mem_cons.1 he with rfl | he; exact k1; exact hA e he)
      have g2 : valF (⟨y, 0, m⟩ :: xs) = (0, 0) := valF_good (by simp; omega) (by intro e he; rcases List.mem_cons.1 he with rfl | he; exact k2; exact hA e he)
      have a1 : app ⟨y, m, 0⟩ y m = true := by unfold app cov; simp [b4]
      have a2 : app ⟨y, 0, m⟩ y m = true := by unfold app cov; simp [b5]
      have d1 : dec (⟨y, m, 0⟩ :: xs) o y m = true := by unfold dec decL; rw [if_neg hy0, if_pos a1]; simp [b1]
      have d2 : dec (⟨y, 0, m⟩ :: xs) o y m = false := by unfold dec decL; rw [if_neg hy0, if_pos a2]; simp [b3]
      refine ⟨.inr (.inr ⟨hc, by omega, by rw [g1], by rw [g2], by rw [g1], by rw [g1, d1]; rfl, by rw [g2, d2]; rfl, ?_⟩)⟩
      by_cases hxy : x = y
      · left; exact decide_eq_true hxy
      · right
        have a3 : app ⟨y, m, 0⟩ x m = false := by unfold app cov; rw [decide_eq_false (by simp; omega)]; rfl
        rw [g1, hz]
        unfold dec
        by_cases hx0 : x = 0
        · rw [if_pos hx0, if_pos hx0]
        · rw [if_neg hx0, if_neg hx0]
          conv => lhs; unfold decL
          rw [a3]; simp
  · exact ⟨.inl ⟨hc, valF_cons_bad hc, valF_cons_bad hc, by simp [hc]⟩⟩

theorem shl_prm (n : Int) : prm (wrap64 (2 ^ (n % 4).toNat)) = true := by
  have hr : n % 4 = 0 ∨ n % 4 = 1 ∨ n % 4 = 2 ∨ n % 4 = 3 := by omega
  rcases hr with h | h | h | h <;> rw [h] <;> first | decide | rfl | (unfold wrap64; decide) | simp [wrap64, prm]
theorem acls_len {w : World} {B n : Nat} {c : Nat} {a : Option Addr} {xs : List Ent} (h : Acls w B (.slice a n c) xs) : n = xs.length := by
  obtain ⟨_, _, hv, _⟩ := h
  injection hv
theorem allV_pair (xs : List Ent) (o x m : Int) : allV xs o x m = .tuple #[.bool (allB xs o x m), .agg #[.int .i64 (allC xs o x m).1, .int .i64 (allC xs o x m).2]] := rfl

set_option maxRecDepth 100000 in
set_option maxHeartbeats 4000000 in
theorem lawFirst_any (v : Value) (xs : List Ent) (n1 n2 n3 n4 : Int) (w : World) (h : Acls w w.heap.size v xs) (hlen : xs.length ≤ 5864062014634) (h1 : 0 ≤ n1 ∧ n1 ≤ 255) (h2 : 0 ≤ n2 ∧ n2 ≤ 255) (h3 : 0 ≤ n3 ∧ n3 ≤ 255) (h4 : 0 ≤ n4 ∧ n4 ≤ 255) :
    Calls Try.prog 8 #[v, .int .u8 n1, .int .u8 n2, .int .u8 n3, .int .u8 n4] w fun e w' => e = .returned (.bool true) ∧ Below w.heap.size w w' := by
  obtain ⟨q1, q2⟩ := h1
  obtain ⟨q3, q4⟩ := h2
  obtain ⟨q5, q6⟩ := h3
  obtain ⟨q7, q8⟩ := h4
  have HM := Lib.hid (shl_prm n4)
  have H := Lib.hid h
  obtain ⟨av, cv, rfl, _, _, hfit, _⟩ := h
  have HF := Lib.hid hfit
  clear hfit
  go_enter Try.func8, Try.ntmps8
  go_wp2_with fail
  have HO := Lib.hid (show usr (n1 % 8) = true by unfold usr; rw [decide_eq_true_iff]; omega)
  have HX := Lib.hid (show usr (n3 % 8) = true by unfold usr; rw [decide_eq_true_iff]; omega)
  have hy1 : 1 ≤ 1 + n2 % 7 := by omega
  have hy7 : 1 + n2 % 7 ≤ 7 := by omega
  generalize wrap64 (2 ^ (n4 % 4).toNat) = m at *
  generalize n1 % 8 = o at *
  generalize n3 % 8 = x at *
  generalize 1 + n2 % 7 = y at *
  have HW := Lib.hid (first_of (xs := xs) HO.out HX.out hy1 hy7 HM.out)
  have hmf : (Ent.mk y m 0).fits ∧ (Ent.mk y 0 m).fits := by
    obtain ⟨_, _, _, _, _, b6, b7⟩ := bit_self HM.out
    unfold Ent.fits i64; simp; omega
  have HG := Lib.hid hmf
  clear hmf q1 q2 q3 q4 q5 q6 q7 q8
  refine (allowed_any _ xs o x m _ H.out).mono ?_
  rw [allV_pair]
  rintro e w1 ⟨rfl, b1⟩
  generalize allB xs o x m = was at *
  generalize (allC xs o x m).1 = c at *
  generalize (allC xs o x m).2 = ci at *
  have hs1 := b1.size
  have F1 := Lib.hid (FBox.new w1 c ci 24)
  have A1 := Lib.hid (((H.out.below b1).alloc b1.size (.cells #[.int .i64 c, .int .i64 ci] 24)))
  have B1 := Lib.hid (b1.alloc b1.size (.cells #[.int .i64 c, .int .i64 ci] 24))
  clear b1
  go_wp2_with (first
    | (at_builtin
       refine wpList_append_ents rfl (.tmp 50) (.tmp 51) rfl w.heap.size (.slice (some ⟨w1.heap.size + 1, 0, none⟩) 1 1) 1 [⟨y, m, 0⟩] rfl (own_ent _ _ _ (by first | omega | (simp; done) | (simp; omega)) (by first | omega | (simp; done) | (simp; omega)) _) w.heap.size (.slice av xs.length cv) xs rfl (A1.out.alloc (by first | omega | (simp; done) | (simp; omega)) _) (by first | omega | (simp; done) | (simp; omega)) (by first | omega | (simp; done) | (simp; omega)) ?_
       intro v2 w2 hown2 hg2
       have hs2 := hg2.size
       simp at hs2
       have B2 := Lib.hid (show Below w.heap.size w w2 from (B1.out.alloc (by first | omega | (simp; done) | (simp; omega)) _).grown hg2 (by first | omega | (simp; done) | (simp; omega)) (fun g hg => by simp [Value.ownBlock] at hg; omega))
       have F2 := Lib.hid ((F1.out.alloc _).grown hg2 (by simp [Value.ownBlock]))
       have O2 := Lib.hid hown2
       clear hown2 hg2 F1 A1 B1)
    | (at_builtin
       refine wpList_append_ents rfl (.tmp 56) (.tmp 57) rfl w.heap.size (.slice (some ⟨w2.heap.size, 0, none⟩) 1 1) 1 [⟨y, 0, m⟩] rfl (own_ent _ _ _ (by first | omega | (simp; done) | (simp; omega)) (by first | omega | (simp; done) | (simp; omega)) _) w.heap.size (.slice av xs.length cv) xs rfl ((H.out.below B2.out).alloc (by first | omega | (simp; done) | (simp; omega)) _) (by first | omega | (simp; done) | (simp; omega)) (by first | omega | (simp; done) | (simp; omega)) ?_
       intro v3 w3 hown3 hg3
       have hs3 := hg3.size
       simp at hs3
       have B3 := Lib.hid (show Below w.heap.size w w3 from (B2.out.alloc (by first | omega | (simp; done) | (simp; omega)) _).grown hg3 (by first | omega | (simp; done) | (simp; omega)) (fun g hg => by simp [Value.ownBlock] at hg; omega))
       have F3 := Lib.hid ((F2.out.alloc _).grown hg3 (by have h9 := F2.out.lt; simp [Value.ownBlock]; omega))
       have O3 := Lib.hid hown3
       have P3 := Lib.hid ((O2.out.alloc _).kept hg3 (.inr (by
         intro e
         have := (O2.out.lt _ e).2
         simp at this)))
       clear hown3 hg3 F2 O2 B2)
    | fail)
  have Y3 := Lib.hid (acls_own (es := ⟨y, m, 0⟩ :: xs) P3.out (by intro e he; rcases List.mem_cons.1 he with rfl | he; exact HG.out.1; exact HF.out e he) (by simp; omega))
  have N3 := Lib.hid (acls_own (es := ⟨y, 0, m⟩ :: xs) O3.out (by intro e he; rcases List.mem_cons.1 he with rfl | he; exact HG.out.2; exact HF.out e he) (by simp; omega))
  clear P3 O3 H HF HG
  refine (allowed_any _ _ o y m _ Y3.out).mono ?_
  rw [allV_pair]
  rintro e w4 ⟨rfl, b4⟩
  generalize allB (⟨y, m, 0⟩ :: xs) o y m = A at *
  generalize (allC (⟨y, m, 0⟩ :: xs) o y m).1 = ca at *
  generalize (allC (⟨y, m, 0⟩ :: xs) o y m).2 = ia at *
  have hs4 := b4.size
  have B4 := Lib.hid (B3.out.trans (b4.mono (by omega)))
  have F4 := Lib.hid ((F3.out.below b4 F3.out.lt).alloc (.cells #[.int .i64 ca, .int .i64 ia] 24))
  have G4 := Lib.hid (FBox.new w4 ca ia 24)
  have Y4 := Lib.hid ((Y3.out.below b4).alloc hs4 (.cells #[.int .i64 ca, .int .i64 ia] 24))
  have N4 := Lib.hid ((N3.out.below b4).alloc hs4 (.cells #[.int .i64 ca, .int .i64 ia] 24))
  clear b4 B3 F3 Y3 N3
  go_wp2_with fail
  refine (allowed_any _ _ o y m _ (N4.out.more (by first | omega | (simp; done) | (simp; omega)))).mono ?_
  rw [allV_pair]
  rintro e w5 ⟨rfl, b5⟩
  generalize allB (⟨y, 0, m⟩ :: xs) o y m = B at *
  generalize (allC (⟨y, 0, m⟩ :: xs) o y m).1 = cb at *
  generalize (allC (⟨y, 0, m⟩ :: xs) o y m).2 = ib at *
  have hs5 := b5.size
  simp at hs5
  have B5 := Lib.hid ((B4.out.alloc (by first | omega | (simp; done) | (simp; omega)) _).trans (b5.mono (by first | omega | (simp; done) | (simp; omega))))
  have F5 := Lib.hid ((F4.out.below b5 F4.out.lt).alloc (.cells #[.int .i64 cb, .int .i64 ib] 24))
  have G5 := Lib.hid ((G4.out.below b5 G4.out.lt).alloc (.cells #[.int .i64 cb, .int .i64 ib] 24))
  have H5 := Lib.hid (FBox.new w5 cb ib 24)
  have Y5 := Lib.hid ((Y4.out.below (b5.mono (by first | omega | (simp; done) | (simp; omega)))).alloc (by first | omega | (simp; done) | (simp; omega)) (.cells #[.int .i64 cb, .int .i64 ib] 24))
  clear b5 B4 F4 G4 Y4 N4
  go_wp2_with fail
  refine (allowed_any _ _ o x m _ (Y5.out.more (by first | omega | (simp; done) | (simp; omega)))).mono ?_
  rw [allV_pair]
  rintro e w6 ⟨rfl, b6⟩
  generalize allB (⟨y, m, 0⟩ :: xs) o x m = C at *
  generalize (allC (⟨y, m, 0⟩ :: xs) o x m).1 = cc at *
  generalize (allC (⟨y, m, 0⟩ :: xs) o x m).2 = ic at *
  have hs6 := b6.size
  simp at hs6
  have B6 := Lib.hid ((B5.out.alloc (by first | omega | (simp; done) | (simp; omega)) _).trans (b6.mono (by first | omega | (simp; done) | (simp; omega))))
  obtain ⟨_, f0, f1, _, _⟩ := F5.out.below b6 F5.out.lt
  obtain ⟨lg, g0, g1, _, _⟩ := G5.out.below b6 G5.out.lt
  obtain ⟨lh, h0, h1, _, _⟩ := H5.out.below b6 H5.out.lt
  have lf := F5.out.lt
  simp at lf
  clear b6 B5 F5 G5 H5 Y5
  have fin : ∀ W, Below w.heap.size w W → (Ending.returned (.bool true) = .returned (.bool true) ∧ Below w.heap.size w W) := fun W h => ⟨rfl, h⟩
  rcases HW.out.way with ⟨k1, k2, k3, rfl⟩ | ⟨rfl, k1, rfl, rfl⟩ | ⟨rfl, k1, rfl, rfl, rfl, rfl, rfl, k2⟩
  · have t1 : (c != 0) = true := by simpa using k1
    have t2 : (ca != 0) = true := by simpa using k2
    have t3 : (cb != 0) = true := by simpa using k3
    clear HW k1 k2 k3
    go_wp2
    go_ret
    exact ⟨by first | rfl | simp, B6.out.alloc (by first | omega | (simp; done) | (simp; omega)) _⟩
  · have t1 : ((xs.length : Int) == 6) = true := by rw [k1]; rfl
    clear HW k1
    go_wp2
    go_ret
    exact ⟨by first | rfl | simp, B6.out.alloc (by first | omega | (simp; done) | (simp; omega)) _⟩
  · have t1 : ((xs.length : Int) == 6) = false := by simp; omega
    rcases k2 with k2 | rfl
    · obtain rfl : x = y := of_decide_eq_true k2
      clear HW k1 k2
      go_wp2
      go_ret
      exact ⟨by first | rfl | simp, B6.out.alloc (by first | omega | (simp; done) | (simp; omega)) _⟩
    · by_cases hxy : x = y
      · subst hxy
        clear HW k1
        go_wp2
        go_ret
        exact ⟨by first | rfl | simp, B6.out.alloc (by first | omega | (simp; done) | (simp; omega)) _⟩
      · have hxy1 : (x == y) = false := by simpa using hxy
        clear HW k1 hxy
        go_wp2
        go_ret
        exact ⟨by first | rfl | simp, B6.out.alloc (by first | omega | (simp; done) | (simp; omega)) _⟩

end Go.Proofs.Ytbmcfhojhngpkaa
