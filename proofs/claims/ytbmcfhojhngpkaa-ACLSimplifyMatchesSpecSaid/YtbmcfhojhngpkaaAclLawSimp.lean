/- The law ACLSimplifyMatchesSpec returns true at every list. Conditions: the slice's cells lie in memory as they read. -/
import Derived.Test.YtbmcfhojhngpkaaAclRefSimp
import Derived.Test.YtbmcfhojhngpkaaAclSame
namespace Go.Proofs.Ytbmcfhojhngpkaa
open Go.RowKit

theorem Acls.form {w : World} {B n : Nat} {v : Value} {xs : List Ent} (h : Acls w B v xs) (hn : xs.length = n) : ∃ a c, v = .slice a n c := by
  subst hn
  obtain ⟨a, c, hv, _⟩ := h
  exact ⟨a, c, hv⟩
theorem acls_two (w : World) (n : Nat) (hn : n = w.heap.size) (e f : Ent) (hf : e.fits) (hg : f.fits) (t : TypeId) : Acls (w.alloc (.cells #[.int .i64 e.u, .int .i64 e.a, .int .i64 e.d, .int .i64 f.u, .int .i64 f.a, .int .i64 f.d] t)) (w.heap.size + 1) (.slice (some ⟨n, 0, none⟩) 2 2) [e, f] := by
  subst hn
  refine ⟨_, _, rfl, by simp, by simp, by intro x hx; rcases List.mem_cons.1 hx with rfl | hx; exact hf; rw [List.mem_singleton.1 hx]; exact hg, fun _ => ⟨_, _, rfl, by simp, ?_⟩⟩
  intro j hj
  match j, hj with
  | 0, _ => simp
  | 1, _ => simp
theorem valF_pairs : valF [⟨-1, 1, 0⟩, ⟨2, 0, 1⟩] = (0, 0) := by
  refine valF_good (by simp) ?_
  intro e he
  rcases List.mem_cons.1 he with rfl | he
  · exact ok_code (by unfold Ent.fits i64; simp) ⟨by simp, by simp, by simp, by simp, by simp, by simp, by decide +kernel, by simp⟩
  · rw [List.mem_singleton.1 he]
    exact ok_code (by unfold Ent.fits i64; simp) ⟨by simp, by simp, by simp, by simp, by simp, by simp, by decide +kernel, by simp⟩
theorem simpOf_pairs : simpOf [⟨-1, 1, 0⟩, ⟨2, 0, 1⟩] = [⟨-1, 1, 0⟩] := by
  unfold simpOf
  rw [valF_pairs, if_pos rfl]
  kernel_rfl

set_option maxRecDepth 100000 in
set_option maxHeartbeats 1600000 in
theorem lawSimp_any (v : Value) (xs : List Ent) (w : World) (h : Acls w w.heap.size v xs) :
    Calls Try.prog 6 #[v] w fun e w' => e = .returned (.bool true) ∧ Below w.heap.size w w' := by
  have C1 := Lib.hid (simplify_any v xs w h)
  have c2 := fun W (hb : Below w.heap.size w W) => refValid_any v xs W ((h.below hb).more hb.size)
  have H := Lib.hid h
  have hfit : ∀ e ∈ xs, e.fits := by obtain ⟨_, _, _, _, _, hf, _⟩ := h; exact hf
  clear h
  generalize hv : valF xs = p
  obtain ⟨c, i⟩ := p
  rw [valV_pair hv] at c2
  have C2 := Lib.hid c2
  clear c2
  by_cases hc : c = 0
  · subst hc
    have hv0 := valF_zero (xs := xs) (by rw [hv])
    obtain rfl : i = 0 := by rw [hv] at hv0; injection hv0
    have hso : simpOf xs = simpK xs xs.length := by unfold simpOf; rw [hv, if_pos rfl]
    have hok : ∀ e ∈ xs, Ok e := fun e he => ok_of (hfit e he) ((valF_ok hv0).2 e he)
    have h6 := (valF_ok hv0).1
    have C3 := Lib.hid (fun W (hb : Below w.heap.size w W) => refSimp_any v xs W ((H.out.below hb).more hb.size) hok h6)
    have HS := Lib.hid hso
    have HV := Lib.hid hv
    clear hv hv0 hso hok hfit
    go_enter Try.func6, Try.ntmps6
    go_wp2_with fail
    refine C1.out.mono ?_
    rintro e w1 ⟨v1, rfl, hA1, b1⟩
    rw [HV.out]
    rw [HS.out] at hA1
    have A1 := Lib.hid hA1
    clear hA1
    go_wp2_with fail
    refine (C2.out _ (b1.alloc b1.size _)).mono ?_
    rintro e w2 ⟨rfl, b2⟩
    have B2 := Lib.hid ((b1.alloc b1.size (.cells #[.int .i64 0, .int .i64 0] 24)).trans (b2.mono (by have := b1.size; simp; omega)))
    have X2 := Lib.hid ((FBox.new w1 0 0 24).below b2 (by simp))
    have A2 := Lib.hid ((A1.out.alloc (Nat.le_refl _) (.cells #[.int .i64 0, .int .i64 0] 24)).below (b2.mono (by simp)))
    have hs2 := b2.size
    simp at hs2
    clear b1 b2 A1
    have hs0 := B2.out.size
    go_wp2_with fail
    refine (simplify_any _ [⟨-1, 1, 0⟩, ⟨2, 0, 1⟩] _ ((acls_two _ _ (by simp) ⟨-1, 1, 0⟩ ⟨2, 0, 1⟩ (by unfold Ent.fits i64; simp) (by unfold Ent.fits i64; simp) _).more (by simp))).mono ?_
    rintro e w3 ⟨v3, rfl, hA3, b3⟩
    rw [valF_pairs]
    rw [simpOf_pairs] at hA3
    have A3 := Lib.hid hA3
    have B3 := Lib.hid (((B2.out.alloc (by first | omega | (simp; done) | (simp; omega)) (.cells #[.int .i64 0, .int .i64 0] 24)).alloc (by first | omega | (simp; done) | (simp; omega)) _).trans (b3.mono (by first | omega | (simp; done) | (simp; omega))))
    have X3 := Lib.hid (((X2.out.alloc (.cells #[.int .i64 0, .int .i64 0] 24)).alloc _).below b3 (by have h9 := X2.out.lt; first | omega | (simp; done) | (simp; omega)))
    have Y3 := Lib.hid (((FBox.new w2 0 0 24).alloc _).below b3 (by first | omega | (simp; done) | (simp; omega)))
    have M3 := Lib.hid (((A2.out.alloc (by first | omega | (simp; done) | (simp; omega)) (.cells #[.int .i64 0, .int .i64 0] 24)).alloc (by first | omega | (simp; done) | (simp; omega)) _).below (b3.mono (by first | omega | (simp; done) | (simp; omega))))
    have hs3 := b3.size
    simp at hs3
    clear hA3 b3 B2 X2 A2
    have hx3 := X3.out.lt
    have hy3 := Y3.out.lt
    obtain ⟨lx, x0, x1, _, _⟩ := X3.out
    obtain ⟨ly, y0, y1, _, _⟩ := Y3.out
    go_wp2_with fail
    refine (C3.out _ (B3.out.alloc (by first | omega | (simp; done) | (simp; omega)) _)).mono ?_
    rintro e w4 ⟨v4, rfl, hA4, b4⟩
    have A4 := Lib.hid hA4
    have B4 := Lib.hid ((B3.out.alloc (by first | omega | (simp; done) | (simp; omega)) (.cells #[.int .i64 0, .int .i64 0] 24)).trans (b4.mono (by first | omega | (simp; done) | (simp; omega))))
    have Z4 := Lib.hid ((FBox.new w3 0 0 24).below b4 (by simp))
    have M4 := Lib.hid ((M3.out.alloc (by first | omega | (simp; done) | (simp; omega)) (.cells #[.int .i64 0, .int .i64 0] 24)).below (b4.mono (by first | omega | (simp; done) | (simp; omega))))
    have N4 := Lib.hid ((A3.out.alloc (by first | omega | (simp; done) | (simp; omega)) (.cells #[.int .i64 0, .int .i64 0] 24)).below (b4.mono (by first | omega | (simp; done) | (simp; omega))))
    have hs4 := b4.size
    simp at hs4
    clear hA4 b4 B3 M3 A3 X3 Y3 x0 x1 y0 y1 lx ly
    go_wp2_with fail
    refine (aclsSame_any _ _ (simpK xs xs.length) _ _ _ M4.out A4.out).mono ?_
    rintro e w5 ⟨rfl, q, rfl⟩
    obtain ⟨lz, z0, z1, _, _⟩ := Z4.out
    go_wp2_with fail
    refine (aclsSame_any _ _ [⟨-1, 1, 0⟩] _ (w3.heap.size) (w4.heap.size + 1) (Acls.alloc (w := w4.drewN q) N4.out (by first | omega | (simp; done) | (simp; omega)) _) (by simpa using acls_one (w4.drewN q) _ (by simp) ⟨-1, 1, 0⟩ (by unfold Ent.fits i64; simp) _)).mono ?_
    rintro e w6 ⟨rfl, q2, rfl⟩
    go_wp2_with fail
    go_ret
    refine ⟨by first | rfl | simp, ?_⟩
    have h9 := B4.out.size
    repeat (first | exact B4.out | refine below_drewN ?_ _ | refine Below.alloc ?_ (by first | omega | (simp; done) | (simp; omega)) _)
  · have HV := Lib.hid hv
    have HC := Lib.hid hc
    have hc1 : (c != 0) = true := by simpa using hc
    have hc2 : (c == 0) = false := by simpa using hc
    clear hv hc hfit
    go_enter Try.func6, Try.ntmps6
    go_wp2_with fail
    refine C1.out.mono ?_
    rintro e w1 ⟨v1, rfl, hA1, b1⟩
    rw [HV.out]
    obtain ⟨a, c', rfl⟩ := hA1.form (n := 0) (by unfold simpOf; rw [HV.out, if_neg HC.out]; rfl)
    clear hA1
    go_wp2_with fail
    refine (C2.out _ (b1.alloc b1.size _)).mono ?_
    rintro e w2 ⟨rfl, b2⟩
    have B2 := Lib.hid ((b1.alloc b1.size (.cells #[.int .i64 c, .int .i64 i] 24)).trans (b2.mono (by have := b1.size; simp; omega)))
    have X2 := (FBox.new w1 c i 24).below b2 (by simp)
    obtain ⟨lx, x0, x1, _, _⟩ := X2
    clear b1 b2
    go_wp2_with fail
    go_ret
    exact ⟨by first | rfl | simp, B2.out.alloc B2.out.size _⟩

end Go.Proofs.Ytbmcfhojhngpkaa
