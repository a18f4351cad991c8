/- The law MemfsValidateRequestMatchesSpec returns true at every request. Conditions: the request's slices lie in memory as they read. -/
import Derived.Test.YtfealpehdjeckaaDoorMfRefReq
namespace Go.Proofs.YtfealpehdjeckaaDoor
open Go.RowKit

theorem rqC_zero : rqC R0 = 4 := by unfold rqC; rw [if_pos (show knownB R0.k = false from rfl)]
theorem R0_s (w : World) (B : Nat) : RqS w B (.slice none 0 0) (.slice none 0 0) R0 := ⟨Byts.none_ _ _, Acls.none_ _ _, i64_zero, i64_zero, i64_zero, i64_zero, by simp [maxLen], by simp [maxLen], A0_fits⟩

set_option maxRecDepth 100000 in
set_option maxHeartbeats 4000000 in
theorem lawMfReq_any (r : Rq) (vd va : Value) (w : World) (gm : GM w) (h : RqS w w.heap.size vd va r) :
    Calls Tryd.prog 3 #[rqV r vd va] w fun e w' => e = .returned (.bool true) ∧ Below w.heap.size w w' := by
  have hsd : ∃ a n c, vd = .slice a n c := by obtain ⟨a, c, h, _⟩ := h.d; exact ⟨_, _, _, h⟩
  have hsa : ∃ a n c, va = .slice a n c := by obtain ⟨a, c, h, _⟩ := h.ac; exact ⟨_, _, _, h⟩
  obtain ⟨da, dn, dc, rfl⟩ := hsd
  obtain ⟨aa, an', ac', rfl⟩ := hsa
  have C1 := Lib.hid (fun W (hb : Below w.heap.size w W) => validateRequest_any r _ _ W (gm.below hb) (h.up hb))
  have C2 := Lib.hid (fun W (hb : Below w.heap.size w W) => requestCode_any r _ _ W (h.up hb))
  have C3 := Lib.hid (fun W (hb : Below w.heap.size w W) => validateRequest_any R0 _ _ W (gm.below hb) (R0_s W _))
  rw [rqC_zero] at C3
  unfold faultV rqV at C1 C2 C3
  have B0 := Lib.hid (show Below w.heap.size w (w.alloc (.cells #[.int .i64 r.k, .int .i64 r.u, .string r.p, .string r.t, .int .i64 r.off, .int .i64 r.sz, .slice da dn dc, .slice aa an' ac', .string r.a.n, .string r.a.v] 27)) from (Below.refl _ _).alloc (Nat.le_refl _) _)
  have K0 := Lib.hid (RqB.new w r.k r.u r.p r.t r.off r.sz (.slice da dn dc) (.slice aa an' ac') r.a.n r.a.v 27)
  clear h gm
  unfold rqV
  generalize hR : rqC r = R at *
  clear hR
  obtain ⟨k, u, p, t, off, sz, d, ac, an, av⟩ := r
  simp only at *
  go_enter Tryd.func3, Tryd.ntmps3
  go_wp2_with fail
  refine (C1.out _ B0.out).mono ?_
  rintro e w1 ⟨rfl, b1⟩
  have B1 := Lib.hid (B0.out.trans (b1.mono B0.out.size))
  have hs1 := B1.out.size
  have B2 := Lib.hid ((B1.out.alloc hs1 (.cells #[.int .i64 R, .int .i64 0] 29)).alloc (by simp; omega) (.cells #[.int .i64 0, .int .i64 0] 29))
  have K2 := Lib.hid (((K0.out.up b1).up ((Below.refl _ _).alloc (Nat.le_refl _) (.cells #[.int .i64 R, .int .i64 0] 29))).up ((Below.refl _ _).alloc (Nat.le_refl _) (.cells #[.int .i64 0, .int .i64 0] 29)))
  have X2 := Lib.hid ((FBox.new w1 R 0 29).alloc (.cells #[.int .i64 0, .int .i64 0] 29))
  have Y2 := Lib.hid ((FBox.new (w1.alloc (.cells #[.int .i64 R, .int .i64 0] 29)) 0 0 29).at_ (n' := w1.heap.size + 1) (by simp))
  obtain ⟨q0, c0, c1, c2, c3, c4, c5, c6, c7, c8, c9⟩ := K2.out
  clear b1 K0 B0 C1
  go_wp2_with fail
  refine (C2.out _ B2.out).mono ?_
  rintro e w3 ⟨rfl, b3⟩
  have B3 := Lib.hid (B2.out.trans (b3.mono B2.out.size))
  have K3 := Lib.hid (K2.out.up b3)
  have X3 := Lib.hid (X2.out.below b3 X2.out.lt)
  have Y3 := Lib.hid (Y2.out.below b3 Y2.out.lt)
  have hs3 := B3.out.size
  clear b3 K2 X2 Y2 B2 c0 c1 c2 c3 c4 c5 c6 c7 c8 c9 q0
  generalize w1.heap.size = n1 at *
  by_cases hz : R = 0
  · subst hz
    obtain ⟨lx, x0, x1, _, _⟩ := X3.out
    obtain ⟨ly, y0, y1, _, _⟩ := Y3.out
    clear B1 K3 C2
    go_wp2_with fail
    refine (C3.out _ B3.out).mono ?_
    rintro e w4 ⟨rfl, b4⟩
    have B4 := Lib.hid (B3.out.trans (b4.mono B3.out.size))
    clear b4
    go_wp2_with fail
    refine (newFault_any _ _ _).mono ?_
    rintro e w5 ⟨rfl, b5⟩
    have B5 := B4.out.trans (b5.mono B4.out.size)
    clear b5
    go_wp2
    go_ret
    exact ⟨rfl, B5⟩
  · have hz1 : (R != 0) = true := by simpa using hz
    obtain ⟨q0, c0, c1, c2, c3, c4, c5, c6, c7, c8, c9⟩ := K3.out
    clear hz
    go_wp2_with fail
    refine (C2.out _ B3.out).mono ?_
    rintro e w4 ⟨rfl, b4⟩
    have B4 := Lib.hid (B3.out.trans (b4.mono B3.out.size))
    have X4 := Lib.hid (X3.out.below b4 X3.out.lt)
    have Y4 := Lib.hid (Y3.out.below b4 Y3.out.lt)
    clear b4 K3 X3 Y3 c0 c1 c2 c3 c4 c5 c6 c7 c8 c9 q0 C2 B3
    go_wp2_with fail
    refine (newFault_any _ _ _).mono ?_
    rintro e w5 ⟨rfl, b5⟩
    have B5 := Lib.hid (B4.out.trans (b5.mono B4.out.size))
    have X5 := Lib.hid (X4.out.below b5 X4.out.lt)
    have Y5 := Lib.hid (Y4.out.below b5 Y4.out.lt)
    clear b5 B4 X4 Y4
    have X6 := (X5.out.far (p := ⟨n1 + 1, 0, none⟩) (by simp) (.int .i64 R)).far (p := ⟨n1 + 1, 1, none⟩) (by simp) (.int .i64 0)
    have Y6 := Y5.out.put R 0
    have B6 := Lib.hid ((B5.out.setCell (p := ⟨n1 + 1, 0, none⟩) (by simp; omega) (.int .i64 R)).setCell (p := ⟨n1 + 1, 1, none⟩) (by simp; omega) (.int .i64 0))
    obtain ⟨lx, x0, x1, _, _⟩ := X6
    obtain ⟨ly, y0, y1, _, _⟩ := Y6
    obtain ⟨lz, z0, z1, zf0, zf1⟩ := Y5.out
    clear X5 B5 B1 Y5
    go_wp2_with fail
    refine (C3.out _ B6.out).mono ?_
    rintro e w7 ⟨rfl, b7⟩
    have B7 := Lib.hid (B6.out.trans (b7.mono B6.out.size))
    clear b7
    go_wp2_with fail
    refine (newFault_any _ _ _).mono ?_
    rintro e w8 ⟨rfl, b8⟩
    have B8 := B7.out.trans (b8.mono B7.out.size)
    clear b8
    go_wp2
    go_ret
    exact ⟨rfl, B8⟩

end Go.Proofs.YtfealpehdjeckaaDoor
