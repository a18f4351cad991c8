/- The reference's ValidateACL at every access control list: the same fault as acl.Validate. Conditions: the slice's cells lie in memory as they read. -/
import Derived.Test.YtndhhofidkaomaaAclSlice
import Derived.Test.YtndhhofidkaomaaAclBits
import Derived.Deep.QuietTactic
import Derived.BigQuiet

set_option linter.all false
namespace Go.Proofs.Ytndhhofidkaomaa
open Go.RowKit

def codeR (e : Ent) : Int :=
  if e.u < -1 ∨ 7 < e.u then 3
  else if e.a < 0 ∨ 15 < e.a ∨ e.d < 0 ∨ 15 < e.d ∨ bits .and .i64 e.a e.d ≠ 0 ∨ e.a + e.d = 0 then 5 else 0

theorem below_drewN {B : Nat} {a w : World} (h : Below B a w) (n : Nat) : Below B a (w.drewN n) := ⟨h.os, h.tape, h.output, h.size, h.block⟩
theorem or_sum' {a d : Int} (h1 : 0 ≤ a) (h2 : a ≤ 15) (h3 : 0 ≤ d) (h4 : d ≤ 15) (h : bits .and .i64 a d = 0) : (bits .or .i64 a d = 0 ↔ a + d = 0) := by
  obtain ⟨A, rfl⟩ := Int.eq_ofNat_of_zero_le h1
  obtain ⟨D, rfl⟩ := Int.eq_ofNat_of_zero_le h3
  exact or_sum ⟨A, by omega⟩ ⟨D, by omega⟩ h

theorem code_eq {e : Ent} (hf : e.fits) : codeE e = codeR e := by
  obtain ⟨u, a, d⟩ := e
  obtain ⟨hu, ha, hd⟩ := hf
  have hm := perm_mask a d ha.1 ha.2 hd.1 hd.2
  unfold codeE codeR usr
  by_cases h1 : u < -1 ∨ 7 < u
  · rw [if_pos h1, if_pos ⟨by simp; omega, by simp; omega⟩]
  · rw [if_neg h1, if_neg (by simp; omega)]
    by_cases h2 : 0 ≤ a ∧ a ≤ 15 ∧ 0 ≤ d ∧ d ≤ 15
    · have hz := hm.2 h2
      by_cases h3 : bits .and .i64 a d = 0
      · have hs := or_sum' h2.1 h2.2.1 h2.2.2.1 h2.2.2.2 h3
        by_cases h4 : a + d = 0
        · rw [if_pos (.inr (.inr (hs.2 h4))), if_pos (by simp [h4])]
        · rw [if_neg (by simp [hz, h3, hs, h4]), if_neg (by simp [h3, h4]; omega)]
      · rw [if_pos (.inr (.inl h3)), if_pos (by simp [h3])]
    · rw [if_pos (.inl fun h => h2 (hm.1 h)), if_pos (by simp; omega)]

theorem codeR_user {e : Ent} (h : e.u < -1 ∨ 7 < e.u) : codeR e = 3 := by unfold codeR; rw [if_pos h]
theorem codeR_perm {e : Ent} (h : ¬ (e.u < -1 ∨ 7 < e.u)) (h2 : e.a < 0 ∨ 15 < e.a ∨ e.d < 0 ∨ 15 < e.d ∨ bits .and .i64 e.a e.d ≠ 0 ∨ e.a + e.d = 0) : codeR e = 5 := by
  unfold codeR; rw [if_neg h, if_pos h2]
theorem codeR_ok {e : Ent} (h : ¬ (e.u < -1 ∨ 7 < e.u)) (h2 : ¬ (e.a < 0 ∨ 15 < e.a ∨ e.d < 0 ∨ 15 < e.d ∨ bits .and .i64 e.a e.d ≠ 0 ∨ e.a + e.d = 0)) : codeR e = 0 := by
  unfold codeR; rw [if_neg h, if_neg h2]

set_option maxRecDepth 100000 in
set_option maxHeartbeats 4000000 in
theorem refValid_any (v : Value) (xs : List Ent) (w : World) (h : Acls w w.heap.size v xs) :
    Calls Try.prog 37 #[v] w fun e w' => e = .returned (valV xs) ∧ Below w.heap.size w w' := by
  obtain ⟨a, c, rfl, hc, hl, hf, hx⟩ := h
  by_cases h6 : 6 < xs.length
  · have hm := Lib.hid (valV_many h6)
    clear hx hf
    go_enter Try.func37, Try.ntmps37
    go_wp2_with fail
    refine (newFault_any _ _ _).mono ?_
    rintro e w' ⟨rfl, hb'⟩
    have F1 := (FBox.new w 0 0 27).below hb' (by simp)
    have hB : Below w.heap.size w w' := ((Below.refl _ _).alloc (Nat.le_refl _) _).trans (hb'.mono (by simp))
    clear hb'
    obtain ⟨l1, a0, a1, k0, k1⟩ := F1
    go_wp2
    exact bodyPost_ret (v := faultV 2 0) (by simp [results, Try.results37, faultV, go_sem, a0, a1]) rfl ⟨by rw [hm.out], (hB.setCell (by simp) _).setCell (by simp) _⟩
  · have H6 := Lib.hid h6
    have h62 : xs.length ≤ 6 := by omega
    have h6b : decide ((6 : Int) < (xs.length : Int)) = false := by simp; omega
    have HF := Lib.hid hf
    clear hf h6
    go_enter Try.func37, Try.ntmps37
    go_wp2
    go_loopg [3] xs.length (fun gg s3 wr => ∃ kk q : Nat, kk ≤ xs.length ∧ xs.length - kk ≤ gg ∧ s3 = .int .i64 kk ∧ wr = (w.alloc (.cells #[.int .i64 0, .int .i64 0] 27)).drewN q ∧ Aside (∀ j, j < kk → codeE (xs.getD j E0) = 0))
    case atStart => exact ⟨0, 0, Nat.zero_le _, by omega, rfl, rfl, fun j hj => absurd hj (Nat.not_lt_zero _)⟩
    case round =>
      obtain ⟨kk, qq, hkk, hg, rfl, rfl, A⟩ := hrel
      by_cases hlt : kk < xs.length
      · have hltz : (kk : Int) < (xs.length : Int) := by omega
        obtain ⟨b, o, rfl, hb, hj⟩ := hx (by omega)
        have g0 : w.cell? ⟨b, o + kk * 3, none⟩ = some (.int .i64 (xs.getD kk E0).u) := (hj kk hlt).1
        have g1 : w.cell? ⟨b, o + kk * 3 + 1, none⟩ = some (.int .i64 (xs.getD kk E0).a) := (hj kk hlt).2.1
        have g2 : w.cell? ⟨b, o + kk * 3 + 2, none⟩ = some (.int .i64 (xs.getD kk E0).d) := (hj kk hlt).2.2
        have hfk := HF.out _ (by rw [entD hlt]; exact List.getElem_mem hlt : xs.getD kk E0 ∈ xs)
        clear hx hj
        generalize hy : xs.getD kk E0 = y at g0 g1 g2 hfk
        have hce := code_eq hfk
        obtain ⟨u, a, d⟩ := y
        have Y : Aside (xs.getD kk E0 = ⟨u, a, d⟩) := hy
        obtain ⟨_, ⟨ha1, ha2⟩, hd1, hd2⟩ := hfk
        have HC := Lib.hid hce
        clear hy hce
        by_cases hu1 : u < -1
        · go_wp2_with fail
          refine (newFault_any _ _ _).mono ?_
          rintro e w' ⟨rfl, hb'⟩
          have F1 := (FBox.drewN (FBox.new w 0 0 27) _).below hb' (by simp)
          have hB : Below w.heap.size w w' := (below_drewN ((Below.refl _ _).alloc (Nat.le_refl _) _) _).trans (hb'.mono (by simp))
          clear hb'
          obtain ⟨l1, a0, a1, k0, k1⟩ := F1
          go_wp2
          exact bodyPost_ret (v := faultV 3 kk) (by simp [results, Try.results37, faultV, go_sem, a0, a1]) rfl ⟨by rw [valV_hit H6.out hlt (by rw [Y.out, HC.out]; exact codeR_user (.inl hu1)) (by decide) A.out], (hB.setCell (by simp) _).setCell (by simp) _⟩
        by_cases hu2 : 7 < u
        · go_wp2_with fail
          refine (newFault_any _ _ _).mono ?_
          rintro e w' ⟨rfl, hb'⟩
          have F1 := (FBox.drewN (FBox.new w 0 0 27) _).below hb' (by simp)
          have hB : Below w.heap.size w w' := (below_drewN ((Below.refl _ _).alloc (Nat.le_refl _) _) _).trans (hb'.mono (by simp))
          clear hb'
          obtain ⟨l1, a0, a1, k0, k1⟩ := F1
          go_wp2
          exact bodyPost_ret (v := faultV 3 kk) (by simp [results, Try.results37, faultV, go_sem, a0, a1]) rfl ⟨by rw [valV_hit H6.out hlt (by rw [Y.out, HC.out]; exact codeR_user (.inr hu2)) (by decide) A.out], (hB.setCell (by simp) _).setCell (by simp) _⟩
        by_cases h1 : a < 0
        · have th1 : decide (a < 0) = true := by simpa using h1
          go_wp2_with fail
          go_quiet (fail)
          go_wp2_with fail
          refine (newFault_any _ _ _).mono ?_
          rintro e w' ⟨rfl, hb'⟩
          have F1 := (FBox.drewN (FBox.new w 0 0 27) _).below hb' (by simp)
          have hB : Below w.heap.size w w' := (below_drewN ((Below.refl _ _).alloc (Nat.le_refl _) _) _).trans (hb'.mono (by simp))
          clear hb'
          obtain ⟨l1, a0, a1, k0, k1⟩ := F1
          go_wp2
          exact bodyPost_ret (v := faultV 5 kk) (by simp [results, Try.results37, faultV, go_sem, a0, a1]) rfl ⟨by rw [valV_hit H6.out hlt (by rw [Y.out, HC.out]; exact codeR_perm (by simp only [not_or]; omega) (.inl h1)) (by decide) A.out], (hB.setCell (by simp) _).setCell (by simp) _⟩
        have fh1 : decide (a < 0) = false := by simp; omega
        by_cases h2 : 15 < a
        · have th2 : decide (15 < a) = true := by simpa using h2
          go_wp2_with fail
          go_quiet (fail)
          go_wp2_with fail
          refine (newFault_any _ _ _).mono ?_
          rintro e w' ⟨rfl, hb'⟩
          have F1 := (FBox.drewN (FBox.new w 0 0 27) _).below hb' (by simp)
          have hB : Below w.heap.size w w' := (below_drewN ((Below.refl _ _).alloc (Nat.le_refl _) _) _).trans (hb'.mono (by simp))
          clear hb'
          obtain ⟨l1, a0, a1, k0, k1⟩ := F1
          go_wp2
          exact bodyPost_ret (v := faultV 5 kk) (by simp [results, Try.results37, faultV, go_sem, a0, a1]) rfl ⟨by rw [valV_hit H6.out hlt (by rw [Y.out, HC.out]; exact codeR_perm (by simp only [not_or]; omega) (.inr (.inl h2))) (by decide) A.out], (hB.setCell (by simp) _).setCell (by simp) _⟩
        have fh2 : decide (15 < a) = false := by simp; omega
        by_cases h3 : d < 0
        · have th3 : decide (d < 0) = true := by simpa using h3
          go_wp2_with fail
          go_quiet (fail)
          go_wp2_with fail
          refine (newFault_any _ _ _).mono ?_
          rintro e w' ⟨rfl, hb'⟩
          have F1 := (FBox.drewN (FBox.new w 0 0 27) _).below hb' (by simp)
          have hB : Below w.heap.size w w' := (below_drewN ((Below.refl _ _).alloc (Nat.le_refl _) _) _).trans (hb'.mono (by simp))
          clear hb'
          obtain ⟨l1, a0, a1, k0, k1⟩ := F1
          go_wp2
          exact bodyPost_ret (v := faultV 5 kk) (by simp [results, Try.results37, faultV, go_sem, a0, a1]) rfl ⟨by rw [valV_hit H6.out hlt (by rw [Y.out, HC.out]; exact codeR_perm (by simp only [not_or]; omega) (.inr (.inr (.inl h3)))) (by decide) A.out], (hB.setCell (by simp) _).setCell (by simp) _⟩
        have fh3 : decide (d < 0) = false := by simp; omega
        by_cases h4 : 15 < d
        · have th4 : decide (15 < d) = true := by simpa using h4
          go_wp2_with fail
          go_quiet (fail)
          go_wp2_with fail
          refine (newFault_any _ _ _).mono ?_
          rintro e w' ⟨rfl, hb'⟩
          have F1 := (FBox.drewN (FBox.new w 0 0 27) _).below hb' (by simp)
          have hB : Below w.heap.size w w' := (below_drewN ((Below.refl _ _).alloc (Nat.le_refl _) _) _).trans (hb'.mono (by simp))
          clear hb'
          obtain ⟨l1, a0, a1, k0, k1⟩ := F1
          go_wp2
          exact bodyPost_ret (v := faultV 5 kk) (by simp [results, Try.results37, faultV, go_sem, a0, a1]) rfl ⟨by rw [valV_hit H6.out hlt (by rw [Y.out, HC.out]; exact codeR_perm (by simp only [not_or]; omega) (.inr (.inr (.inr (.inl h4))))) (by decide) A.out], (hB.setCell (by simp) _).setCell (by simp) _⟩
        have fh4 : decide (15 < d) = false := by simp; omega
        by_cases h5 : bits .and .i64 a d = 0
        · have h51 : (bits .and .i64 a d == 0) = true := by simpa using h5
          have h52 : (bits .and .i64 a d != 0) = false := by simpa using h5
          have BZ := Lib.hid h5
          clear h5
          by_cases h6 : a + d = 0
          · have h61 : (a + d == 0) = true := by simpa using h6
            have H7 := Lib.hid h6
            clear h6
            go_wp2_with fail
            go_quiet (fail)
            go_wp2_with fail
            refine (newFault_any _ _ _).mono ?_
            rintro e w' ⟨rfl, hb'⟩
            have F1 := (FBox.drewN (FBox.new w 0 0 27) _).below hb' (by simp)
            have hB : Below w.heap.size w w' := (below_drewN ((Below.refl _ _).alloc (Nat.le_refl _) _) _).trans (hb'.mono (by simp))
            clear hb'
            obtain ⟨l1, a0, a1, k0, k1⟩ := F1
            go_wp2
            exact bodyPost_ret (v := faultV 5 kk) (by simp [results, Try.results37, faultV, go_sem, a0, a1]) rfl ⟨by rw [valV_hit H6.out hlt (by rw [Y.out, HC.out]; exact codeR_perm (by simp only [not_or]; omega) (.inr (.inr (.inr (.inr (.inr H7.out)))))) (by decide) A.out], (hB.setCell (by simp) _).setCell (by simp) _⟩
          · have h61 : (a + d == 0) = false := by simpa using h6
            have H7 := Lib.hid h6
            clear h6
            go_wp2_with fail
            go_quiet (fail)
            go_wp2_with fail
            go_roundg (xs.length - (kk + 1))
            case measure => omega
            case rel =>
              refine ⟨kk + 1, _, by omega, by omega, by go_num, rfl, (show Aside _ from fun j hj => ?_)⟩
              by_cases e : j = kk
              · subst e
                rw [Y.out, HC.out]
                exact codeR_ok (by simp only [not_or]; omega) (by have := H7.out; have := BZ.out; simp only [not_or]; exact ⟨by omega, by omega, by omega, by omega, by simpa using this, H7.out⟩)
              · exact A.out j (by omega)
        · have h51 : (bits .and .i64 a d == 0) = false := by simpa using h5
          have h52 : (bits .and .i64 a d != 0) = true := by simpa using h5
          have H7 := Lib.hid h5
          clear h5
          go_wp2_with fail
          go_quiet (fail)
          go_wp2_with fail
          refine (newFault_any _ _ _).mono ?_
          rintro e w' ⟨rfl, hb'⟩
          have F1 := (FBox.drewN (FBox.new w 0 0 27) _).below hb' (by simp)
          have hB : Below w.heap.size w w' := (below_drewN ((Below.refl _ _).alloc (Nat.le_refl _) _) _).trans (hb'.mono (by simp))
          clear hb'
          obtain ⟨l1, a0, a1, k0, k1⟩ := F1
          go_wp2
          exact bodyPost_ret (v := faultV 5 kk) (by simp [results, Try.results37, faultV, go_sem, a0, a1]) rfl ⟨by rw [valV_hit H6.out hlt (by rw [Y.out, HC.out]; exact codeR_perm (by simp only [not_or]; omega) (.inr (.inr (.inr (.inr (.inl H7.out)))))) (by decide) A.out], (hB.setCell (by simp) _).setCell (by simp) _⟩
      · have hltz : ¬ (kk : Int) < (xs.length : Int) := by omega
        have e : kk = xs.length := by omega
        have E : Aside (kk = xs.length) := e
        clear e hx
        go_wp2_with fail
        exact bodyPost_ret (v := faultV 0 0) (by simp [results, Try.results37, faultV, go_sem]) rfl ⟨by rw [valV_miss H6.out fun j hj => A.out j (by have := E.out; omega)], ((below_drewN ((Below.refl _ _).alloc (Nat.le_refl _) _) _).setCell (by simp) _).setCell (by simp) _⟩

end Go.Proofs.Ytndhhofidkaomaa
