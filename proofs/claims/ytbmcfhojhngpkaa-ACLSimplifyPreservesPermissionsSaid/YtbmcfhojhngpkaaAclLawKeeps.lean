/- The law ACLSimplifyPreservesPermissions returns true at every list and owner. Conditions: the slice's cells lie in memory as they read. -/
import Derived.Test.YtbmcfhojhngpkaaAclKeeps
import Derived.Test.YtbmcfhojhngpkaaAclLawSimp
namespace Go.Proofs.Ytbmcfhojhngpkaa
open Go.RowKit

theorem usrF_usr {xs : List Ent} {o : Int} (ho : usr o = true) : usrF xs o 0 = valF xs := by
  unfold usrF; rw [if_neg (fun k => by have := k.2; rw [ho] at this; cases this)]
theorem keeps_of {xs : List Ent} {o : Int} (hf : ∀ e ∈ xs, e.fits) (hv : valF xs = (0, 0)) (ho : usr o = true) :
    valF (simpOf xs) = (0, 0) ∧ permsOf (simpOf xs) o = permsOf xs o ∧ simpOf (simpOf xs) = simpOf xs ∧ (simpOf xs).length ≤ xs.length := by
  have hso : simpOf xs = simpK xs xs.length := by unfold simpOf; rw [hv, if_pos rfl]
  have hok : ∀ e ∈ xs, Ok e := fun e he => ok_of (hf e he) ((valF_ok hv).2 e he)
  have hfi := simpK_fits hf xs.length (Nat.le_refl _)
  have hyo := simpK_ok hok xs.length (Nat.le_refl _)
  have h6 := (valF_ok hv).1
  have hvy : valF (simpK xs xs.length) = (0, 0) := valF_good (by omega) fun e he => ok_code (hfi.1 e he) (hyo e he)
  rw [hso]
  refine ⟨hvy, ?_, ?_, hfi.2⟩
  · rw [permsOf_ok (by rw [usrF_usr ho]; exact hvy), permsOf_ok (by rw [usrF_usr ho]; exact hv)]
    apply List.map_congr_left
    intro u hu
    have hu8 := List.mem_range.1 hu
    apply pw_congr
    intro m hm
    unfold dec
    by_cases h0 : (u : Int) = 0
    · rw [if_pos h0, if_pos h0]
    · rw [if_neg h0, if_neg h0, decL_fd, decL_fd, fd_simp hok (by omega) (by omega) hm xs.length (Nat.le_refl _), List.take_length]
  · unfold simpOf
    rw [hvy, if_pos rfl]
    exact simpK_idem hok xs.length (Nat.le_refl _)

set_option maxRecDepth 100000 in
set_option maxHeartbeats 4000000 in
theorem lawKeeps_any (v : Value) (xs : List Ent) (n : Int) (w : World) (h : Acls w w.heap.size v xs) (hn : 0 ≤ n ∧ n ≤ 255) :
    Calls Try.prog 7 #[v, .int .u8 n] w fun e w' => e = .returned (.bool true) ∧ Below w.heap.size w w' := by
  obtain ⟨hn0, hn1⟩ := hn
  have H := Lib.hid h
  obtain ⟨av, cv, rfl, _, _, hfit, _⟩ := h
  have HO := Lib.hid (show usr (n % 8) = true by unfold usr; rw [decide_eq_true_iff]; omega)
  have C1 := Lib.hid (permissions_any _ xs (n % 8) w H.out)
  have C2 := Lib.hid (fun W (hb : Below w.heap.size w W) => simplify_any _ xs W ((H.out.below hb).more hb.size))
  generalize hv : valF xs = p
  obtain ⟨c, i⟩ := p
  by_cases hc : c = 0
  · subst hc
    have hv0 := valF_zero (xs := xs) (by rw [hv])
    obtain rfl : i = 0 := by rw [hv] at hv0; injection hv0
    obtain ⟨k1, k2, k3, hyl⟩ := keeps_of hfit hv HO.out
    have HV := Lib.hid hv
    have K1 := Lib.hid k1
    have K2 := Lib.hid k2
    have K3 := Lib.hid k3
    have KL := Lib.hid (show (permsOf xs (n % 8)).length = 8 by rw [permsOf_ok (by rw [usrF_usr HO.out]; exact hv)]; simp)
    have HU1 := Lib.hid (show usrF xs (n % 8) 0 = (0, 0) by rw [usrF_usr HO.out]; exact hv)
    have HU2 := Lib.hid (show usrF (simpOf xs) (n % 8) 0 = (0, 0) by rw [usrF_usr HO.out]; exact k1)
    clear hv hv0 k1 k2 k3 hfit
    go_enter Try.func7, Try.ntmps7
    go_wp2_with fail
    generalize n % 8 = o at *
    refine C1.out.mono ?_
    rintro e w1 ⟨v1, rfl, hI1, b1⟩
    rw [HU1.out]
    obtain ⟨a1, cc1, rfl, _, _⟩ := hI1.form KL.out
    have hs1 := b1.size
    have B1 := Lib.hid (b1.alloc hs1 (.cells #[.int .i64 0, .int .i64 0] 24))
    have F1 := Lib.hid (FBox.new w1 0 0 24)
    have I1 := Lib.hid ((hI1.below ((Below.refl _ _).alloc (Nat.le_refl _) (.cells #[.int .i64 0, .int .i64 0] 24))))
    clear hI1 b1
    go_wp2_with fail
    refine (C2.out _ B1.out).mono ?_
    rintro e w2 ⟨v2, rfl, hA2, b2⟩
    rw [HV.out]
    have A2' := Lib.hid hA2
    obtain ⟨a2, cc2, rfl⟩ := hA2.form rfl
    have hs2 := b2.size
    simp at hs2
    have B2 := Lib.hid (B1.out.trans (b2.mono (by first | omega | (simp; done) | (simp; omega))))
    have F2 := Lib.hid ((F1.out.below b2 F1.out.lt).alloc (.cells #[.int .i64 0, .int .i64 0] 24))
    have G2 := Lib.hid (FBox.new w2 0 0 24)
    have I2 := Lib.hid (((I1.out.more (by first | omega | (simp; done) | (simp; omega))).below b2).below (((Below.refl _ _).alloc (Nat.le_refl _) (.cells #[.int .i64 0, .int .i64 0] 24)).mono (by simp; omega)))
    have A2 := Lib.hid (A2'.out.alloc (Nat.le_refl _) (.cells #[.int .i64 0, .int .i64 0] 24))
    clear hA2 A2' b2 B1 F1 I1
    have lf := F2.out.lt
    have lg := G2.out.lt
    simp at lf lg
    have hsB2 := B2.out.size
    obtain ⟨_, f0, f1, _, _⟩ := F2.out
    obtain ⟨_, g0, g1, _, _⟩ := G2.out
    simp at f0 f1 g0 g1
    go_wp2_with fail
    refine (permissions_any _ (simpOf xs) o _ (A2.out.more (by first | omega | (simp; done) | (simp; omega)))).mono ?_
    rintro e w3 ⟨v3, rfl, hI3, b3⟩
    rw [HU2.out]
    rw [K2.out] at hI3
    have hs3 := b3.size
    simp at hs3
    have B3 := Lib.hid (B2.out.alloc (by first | omega | (simp; done) | (simp; omega)) (.cells #[.int .i64 0, .int .i64 0] 24) |>.trans (b3.mono (by first | omega | (simp; done) | (simp; omega))))
    have G3 := Lib.hid (FBox.new w3 0 0 24)
    have J3 := Lib.hid (hI3.below ((Below.refl _ _).alloc (Nat.le_refl _) (.cells #[.int .i64 0, .int .i64 0] 24)))
    have I3 := Lib.hid ((I2.out.more (by first | omega | (simp; done) | (simp; omega))).below (b3.alloc b3.size (.cells #[.int .i64 0, .int .i64 0] 24)))
    have A3 := Lib.hid ((A2.out.more (by first | omega | (simp; done) | (simp; omega))).below (b3.alloc b3.size (.cells #[.int .i64 0, .int .i64 0] 24)))
    have hsB3 := B3.out.size
    clear hI3 b3 B2 I2 A2 F2 G2 f0 f1 g0 g1 lf lg
    go_wp2_with fail
    refine (simplify_any _ (simpOf xs) _ (A3.out.more (by first | omega | (simp; done) | (simp; omega)))).mono ?_
    rintro e w4 ⟨v4, rfl, hA4, b4⟩
    rw [K1.out]
    rw [K3.out] at hA4
    have hs4 := b4.size
    simp at hs4
    have B4 := Lib.hid ((B3.out.alloc (by first | omega | (simp; done) | (simp; omega)) (.cells #[.int .i64 0, .int .i64 0] 24)).trans (b4.mono (by first | omega | (simp; done) | (simp; omega))))
    have bb := b4.alloc b4.size (.cells #[.int .i64 0, .int .i64 0] 24)
    have G4 := Lib.hid (G3.out.below bb G3.out.lt)
    have H4 := Lib.hid (FBox.new w4 0 0 24)
    have J4 := Lib.hid ((J3.out.more (by first | omega | (simp; done) | (simp; omega))).below bb)
    have I4 := Lib.hid ((I3.out.more (by first | omega | (simp; done) | (simp; omega))).below bb)
    have A4 := Lib.hid ((A3.out.more (by first | omega | (simp; done) | (simp; omega))).below bb)
    have N4 := Lib.hid (hA4.alloc (Nat.le_refl _) (.cells #[.int .i64 0, .int .i64 0] 24))
    have hsB4 := B4.out.size
    clear hA4 b4 bb B3 I3 A3 G3 J3
    obtain ⟨lg, g0, g1, _, _⟩ := G4.out
    obtain ⟨lh, h0, h1, _, _⟩ := H4.out
    simp at lg lh
    clear lh
    try simp at g0 g1
    try simp at h0 h1
    go_wp2_with fail
    refine (intsSame_any _ _ (permsOf xs o) _ _ _ I4.out J4.out).mono ?_
    rintro e w5 ⟨rfl, q, rfl⟩
    go_wp2_with fail
    refine (aclsSame_any _ _ (simpOf xs) _ _ _ (show Acls ((w4.alloc _).drewN q) _ _ _ from A4.out) (show Acls ((w4.alloc _).drewN q) _ _ _ from N4.out)).mono ?_
    rintro e w6 ⟨rfl, q2, rfl⟩
    have hz : ((simpOf xs).length : Int) ≤ (xs.length : Int) := by omega
    go_wp2_with fail
    go_ret
    refine ⟨by first | rfl | simp, ?_⟩
    repeat (first | exact B4.out | refine below_drewN ?_ _ | refine Below.alloc ?_ (by first | omega | (simp; done) | (simp; omega)) _)
  · have HC := Lib.hid hc
    have HV := Lib.hid hv
    have HU := Lib.hid (show usrF xs (n % 8) 0 = (c, i) by rw [usrF_usr HO.out]; exact hv)
    have hc1 : (c != 0) = true := by simpa using hc
    have hc2 : (c == 0) = false := by simpa using hc
    clear hv hc hfit
    go_enter Try.func7, Try.ntmps7
    go_wp2_with fail
    generalize n % 8 = o at *
    refine C1.out.mono ?_
    rintro e w1 ⟨v1, rfl, hI1, b1⟩
    rw [HU.out]
    obtain ⟨a1, cc1, rfl, _, _⟩ := hI1.form (n := 0) (by unfold permsOf; rw [HU.out, if_neg HC.out]; rfl)
    have hs1 := b1.size
    have B1 := Lib.hid (b1.alloc hs1 (.cells #[.int .i64 c, .int .i64 i] 24))
    have F1 := Lib.hid (FBox.new w1 c i 24)
    clear hI1 b1
    go_wp2_with fail
    refine (C2.out _ B1.out).mono ?_
    rintro e w2 ⟨v2, rfl, hA2, b2⟩
    rw [HV.out]
    obtain ⟨a2, cc2, rfl⟩ := hA2.form (n := 0) (by unfold simpOf; rw [HV.out, if_neg HC.out]; rfl)
    have hs2 := b2.size
    simp at hs2
    have B2 := Lib.hid (B1.out.trans (b2.mono (by first | omega | (simp; done) | (simp; omega))))
    have F2 := F1.out.below b2 F1.out.lt
    clear hA2 b2 B1 F1
    have hsB2 := B2.out.size
    obtain ⟨_, f0, f1, _, _⟩ := F2
    go_wp2_with fail
    go_ret
    exact ⟨by first | rfl | simp, B2.out.alloc (by first | omega | (simp; done) | (simp; omega)) _⟩

end Go.Proofs.Ytbmcfhojhngpkaa
