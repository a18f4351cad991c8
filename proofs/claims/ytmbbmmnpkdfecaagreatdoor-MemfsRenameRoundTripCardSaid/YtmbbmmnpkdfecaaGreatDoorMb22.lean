/- Package memfs and what it calls, at this seat's translation.
   Condition: as each theorem states; this text: MfRename. -/
import Derived.Test.YtmbbmmnpkdfecaaGreatDoorMb19

set_option linter.all false

/- rename: an entry moves. Conditions: the execution is the call's own; the tree passes the first checks; versions lie in their range. -/

set_option linter.all false
namespace Go.Proofs.YtmbbmmnpkdfecaaGreatDoor
open Go.RowKit

theorem ino_takF {t : FT} {n : Nat} (hn : n < t.length) (x : ByteArray) (m : Nat) : ino (takF t n x) m = if m = n then { ino t n with es := delE (ino t n).es x } else ino t m := ino_chI _ hn m

theorem movT_lenR (t : FT) (a b : Pl) : (movT t a b).length = t.length := by unfold movT; rw [addF_len, takF_len]

set_option maxRecDepth 100000 in
set_option maxHeartbeats 6400000 in
theorem rename_any (base X g cap : Nat) (sl : Nat → Sl) (t : FT) (r : Rq) (vd va : Value) (w : World) (h : XO w base X g cap sl t r vd va) (gm : GM w) (h1 : Ok1 (tr t)) (hv : VerOk t) :
    Calls Tryz.prog 70 #[.pointer (some ⟨X, 0, none⟩)] w fun e w' =>
      e = .returned (.tuple #[.int .i64 (mvF t r).1.1, .int .i64 (mvF t r).1.2]) ∧ MutP base X r vd va (mvF t r).2 w w' := by
  have H := Lib.hid h
  have hp := h.rq.p
  have ht := h.rq.t
  have CR := Lib.hid (mustBeRemovable_any X g cap t r vd va r.p w ⟨gm, hp, h.xr, h1⟩)
  have CB := Lib.hid (fun (Z : World) (hZ : Below w.heap.size w Z) => isBelow_any r.p r.t Z (gm.below hZ) hp ht)
  have CV := Lib.hid (fun (Z : World) (hZ : Below w.heap.size w Z) => mustBeVacant_any X g cap t r vd va r.t Z ⟨gm.below hZ, ht, (h.up hZ).xr, h1⟩)
  have x3 := h.xr.b.c 3 _ rfl
  have x4 := h.xr.b.c 4 _ rfl
  have xl := h.xr.b.lt
  by_cases hc : (removeF t r.u r.p).2 = 0
  · have R := remove_at h1 hc
    have hpar := vacant_par h1 r.u r.t
    have hnm := Nat.le_trans (vacant_name t r.u r.t) ht
    have hs := ok_srt h1 (removeF t r.u r.p).1.p
    have CF := Lib.hid (fun (Z : World) (hZ : Below w.heap.size w Z) => isFull_any X g cap t r vd va (vacantF t r.u r.t).1.p Z (h.up hZ).xr hpar)
    have HQ := Lib.hid (show mvF t r = if blwB r.p r.t = true then ((0, 15), t) else if (vacantF t r.u r.t).2 ≠ 0 then ((0, (vacantF t r.u r.t).2), t) else if (vacantF t r.u r.t).1.p ≠ (removeF t r.u r.p).1.p ∧ (ino t (vacantF t r.u r.t).1.p).es.length = 16 then ((0, 2), t)
      else (((removeF t r.u r.p).1.i, 0), if (vacantF t r.u r.t).1.p ≠ (removeF t r.u r.p).1.p then touchF (touchF (movT t (removeF t r.u r.p).1 (vacantF t r.u r.t).1) (removeF t r.u r.p).1.p) (vacantF t r.u r.t).1.p else touchF (movT t (removeF t r.u r.p).1 (vacantF t r.u r.t).1) (removeF t r.u r.p).1.p) by
      unfold mvF; rw [if_neg (by simpa using hc)])
    have hE : SrtE (ino (takF t (removeF t r.u r.p).1.p (removeF t r.u r.p).1.n) (vacantF t r.u r.t).1.p).es ∧ (ino (takF t (removeF t r.u r.p).1.p (removeF t r.u r.p).1.n) (vacantF t r.u r.t).1.p).es.length ≤ 900 := by
      rw [ino_takF R.par]
      split
      · have h3 := delE_len R.fnd
        have h4 := ok_len h1 (removeF t r.u r.p).1.p
        exact ⟨delE_srt hs _, by simp only; omega⟩
      · exact ⟨ok_srt h1 _, by have := ok_len h1 (vacantF t r.u r.t).1.p; omega⟩
    have hil : i64 (removeF t r.u r.p).1.i := by have := R.i0; have := R.il; have := h.len; unfold i64; omega
    have hvm : VerOk (movT t (removeF t r.u r.p).1 (vacantF t r.u r.t).1) := (hv.tak R.par _).add (by rw [takF_len]; exact hpar) _
    have CE := Lib.hid (fun (Z : World) (hZ : Below w.heap.size w Z) => removeEntry_any base X g cap sl t r vd va (removeF t r.u r.p).1 Z (h.up hZ) R.par hs R.low)
    have CA := Lib.hid (fun (Z : World) g' cap' sl' (hZ : XO Z base X g' cap' sl' (takF t (removeF t r.u r.p).1.p (removeF t r.u r.p).1.n) r vd va) => addEntry_any base X g' cap' sl' _ r vd va (vacantF t r.u r.t).1 (removeF t r.u r.p).1.i Z hZ (by rw [takF_len]; exact hpar) hE.1 hE.2 ⟨hnm, hil⟩)
    have hTT : addF (takF t (removeF t r.u r.p).1.p (removeF t r.u r.p).1.n) (vacantF t r.u r.t).1.p ⟨(vacantF t r.u r.t).1.n, (removeF t r.u r.p).1.i⟩ = movT t (removeF t r.u r.p).1 (vacantF t r.u r.t).1 := rfl
    rw [hTT] at CA
    have CT1 := Lib.hid (fun (Z : World) g' cap' sl' (hZ : XO Z base X g' cap' sl' (movT t (removeF t r.u r.p).1 (vacantF t r.u r.t).1) r vd va) => touch_any base X g' cap' sl' _ r vd va (removeF t r.u r.p).1.p Z hZ (by rw [movT_lenR]; exact R.par) (hvm _ (by rw [movT_lenR]; exact R.par)))
    have hv3 := hvm.touch (n := (removeF t r.u r.p).1.p) (by rw [movT_lenR]; exact R.par)
    have CT2 := Lib.hid (fun (Z : World) g' cap' sl' (hZ : XO Z base X g' cap' sl' (touchF (movT t (removeF t r.u r.p).1 (vacantF t r.u r.t).1) (removeF t r.u r.p).1.p) r vd va) => touch_any base X g' cap' sl' _ r vd va (vacantF t r.u r.t).1.p Z hZ (by rw [touchF_len, movT_lenR]; exact hpar) (hv3 _ (by rw [touchF_len, movT_lenR]; exact hpar)))
    rw [hc] at CR
    generalize mvF t r = Q at *
    generalize touchF (touchF (movT t (removeF t r.u r.p).1 (vacantF t r.u r.t).1) (removeF t r.u r.p).1.p) (vacantF t r.u r.t).1.p = t4 at *
    generalize touchF (movT t (removeF t r.u r.p).1 (vacantF t r.u r.t).1) (removeF t r.u r.p).1.p = t3 at *
    generalize movT t (removeF t r.u r.p).1 (vacantF t r.u r.t).1 = t2 at *
    generalize takF t (removeF t r.u r.p).1.p (removeF t r.u r.p).1.n = t1 at *
    clear h gm h1 hv hc hpar hnm hs hp ht R hE hil hvm hv3 hTT
    generalize (removeF t r.u r.p).1 = f at *
    generalize (vacantF t r.u r.t).2 = vc at *
    generalize (vacantF t r.u r.t).1 = a at *
    generalize blwB r.p r.t = q at *
    obtain ⟨ap, an, ai⟩ := a
    obtain ⟨fp, fn, fi⟩ := f
    unfold plV at *
    simp only at *
    by_cases hq1 : q = true
    · have hq : Q = ((0, 15), t) := by rw [HQ.out, if_pos hq1]
      subst hq
      subst hq1
      clear HQ CE CA CT1 CT2 CF CV
      go_enter Tryz.func70, Tryz.ntmps70
      go_wp2_with fail
      refine CR.out.mono ?_
      rintro e w1 ⟨rfl, b1⟩
      have B3 := Lib.hid (b1.alloc b1.size (.cells #[.int .i64 (fp : Int), .string fn, .int .i64 fi] 160))
      have HK3 := Lib.hid (PlB.new w1 ⟨fp, fn, fi⟩)
      clear b1
      go_upto_region 4 with fail
      generalize w1.alloc (.cells #[.int .i64 (fp : Int), .string fn, .int .i64 fi] 160) = w3 at *
      generalize w1.heap.size = A at *
      have y3 := (B3.out.cell (p := ⟨X, 3, none⟩) xl).trans x3
      have y4 := (B3.out.cell (p := ⟨X, 4, none⟩) xl).trans x4
      have xl3 := Nat.lt_of_lt_of_le xl B3.out.size
      go_region_with (go_at_call 133; refine (CB.out _ (below_drewN B3.out _)).mono ?_; rintro e z ⟨rfl, hz⟩)
      all_goals
        have hz3 : Below w3.heap.size w3 z := by first | exact hz | exact ((Below.refl w3.heap.size w3).drew).trans hz
        have B4 := Lib.hid (B3.out.trans (hz3.mono B3.out.size))
        have HK4 := Lib.hid (HK3.out.up hz3)
        clear y3 y4 hz hz3

        go_wp2
        go_ret2
        exact ⟨rfl, g, cap, sl, H.out.up B4.out, B4.out.mono H.out.base.1, Typ.of_below B4.out⟩
    · have hq2 : q = false := by simpa using hq1
      subst hq2
      by_cases hvc : vc = 0
      · subst hvc
        by_cases hpp : ap = fp
        · subst hpp
          have hq : Q = ((fi, 0), t3) := by rw [HQ.out, if_neg (by simp), if_neg (by simp), if_neg (by simp), if_neg (by simp)]
          subst hq
          have hz : ((ap : Int) != (ap : Int)) = false := by simp
          clear HQ hq1 CT2 CF
          go_enter Tryz.func70, Tryz.ntmps70
          go_wp2_with fail
          refine CR.out.mono ?_
          rintro e w1 ⟨rfl, b1⟩
          have B3 := Lib.hid (b1.alloc b1.size (.cells #[.int .i64 (ap : Int), .string fn, .int .i64 fi] 160))
          have HK3 := Lib.hid (PlB.new w1 ⟨ap, fn, fi⟩)
          clear b1
          go_upto_region 4 with fail
          generalize w1.alloc (.cells #[.int .i64 (ap : Int), .string fn, .int .i64 fi] 160) = w3 at *
          generalize w1.heap.size = A at *
          have y3 := (B3.out.cell (p := ⟨X, 3, none⟩) xl).trans x3
          have y4 := (B3.out.cell (p := ⟨X, 4, none⟩) xl).trans x4
          have xl3 := Nat.lt_of_lt_of_le xl B3.out.size
          go_region_with (go_at_call 133; refine (CB.out _ (below_drewN B3.out _)).mono ?_; rintro e z ⟨rfl, hz⟩)
          all_goals
            have hz3 : Below w3.heap.size w3 z := by first | exact hz | exact ((Below.refl w3.heap.size w3).drew).trans hz
            have B4 := Lib.hid (B3.out.trans (hz3.mono B3.out.size))
            have HK4 := Lib.hid (HK3.out.up hz3)
            clear y3 y4 hz hz3

            have y4 := (B4.out.cell (p := ⟨X, 4, none⟩) xl).trans x4
            go_wp2_with fail
            refine (CV.out _ B4.out).mono ?_
            rintro e w5 ⟨rfl, b5⟩
            have B6 := Lib.hid ((B4.out.trans (b5.mono B4.out.size)).alloc (Nat.le_trans B4.out.size b5.size) (.cells #[.int .i64 (ap : Int), .string an, .int .i64 ai] 160))
            have HL6 := Lib.hid (PlB.new w5 ⟨ap, an, ai⟩)
            have HK6 := Lib.hid (PlB.up (w := w5) (HK4.out.up b5) ((Below.refl _ _).alloc (Nat.le_refl _) (.cells #[.int .i64 (ap : Int), .string an, .int .i64 ai] 160)))
            clear y4 b5
            go_upto_region 9 with fail
            generalize w5.alloc (.cells #[.int .i64 (ap : Int), .string an, .int .i64 ai] 160) = w6 at *
            generalize w5.heap.size = C at *
            obtain ⟨kl, k0, k1, k2, _, _, _⟩ := HK6.out.pb
            obtain ⟨ll, l0, l1, l2, _, _, _⟩ := HL6.out.pb
            simp only at k0 k1 k2 l0 l1 l2
            go_wp2_with fail
            refine (CE.out _ B6.out).mono ?_
            rintro e w7 ⟨rfl, g7, cap7, sl7, hx7, hb7, ht7⟩
            have HX7 := Lib.hid hx7
            have HB7 := Lib.hid (show Below base w w7 ∧ Typ w w7 from ⟨(B6.out.mono H.out.base.1).trans hb7, (Typ.of_below B6.out).trans ht7⟩)
            have HK7 := Lib.hid (HK6.out.typ ht7)
            have HL7 := Lib.hid (HL6.out.typ ht7)
            clear hx7 hb7 ht7 k0 k1 k2 l0 l1 l2 kl ll
            obtain ⟨kl, k0, k1, k2, _, _, _⟩ := HK7.out.pb
            obtain ⟨ll, l0, l1, l2, _, _, _⟩ := HL7.out.pb
            simp only at k0 k1 k2 l0 l1 l2
            go_wp2_with fail
            refine (CA.out _ _ _ _ HX7.out).mono ?_
            rintro e w8 ⟨rfl, g8, cap8, sl8, hx8, hb8, ht8⟩
            have HX8 := Lib.hid hx8
            have HB8 := Lib.hid (show Below base w w8 ∧ Typ w w8 from ⟨HB7.out.1.trans hb8, HB7.out.2.trans ht8⟩)
            have HK8 := Lib.hid (HK7.out.typ ht8)
            have HL8 := Lib.hid (HL7.out.typ ht8)
            clear hx8 hb8 ht8 k0 k1 k2 l0 l1 l2 kl ll
            obtain ⟨kl, k0, k1, k2, _, _, _⟩ := HK8.out.pb
            obtain ⟨ll, l0, l1, l2, _, _, _⟩ := HL8.out.pb
            simp only at k0 k1 k2 l0 l1 l2
            go_wp2_with fail
            refine (CT1.out _ _ _ _ HX8.out).mono ?_
            rintro e w9 ⟨rfl, g9, cap9, sl9, hx9, hb9, ht9⟩
            have HX9 := Lib.hid hx9
            have HB9 := Lib.hid (show Below base w w9 ∧ Typ w w9 from ⟨HB8.out.1.trans hb9, HB8.out.2.trans ht9⟩)
            have HK9 := Lib.hid (HK8.out.typ ht9)
            have HL9 := Lib.hid (HL8.out.typ ht9)
            clear hx9 hb9 ht9 k0 k1 k2 l0 l1 l2 kl ll
            obtain ⟨kl, k0, k1, k2, _, _, _⟩ := HK9.out.pb
            obtain ⟨ll, l0, l1, l2, _, _, _⟩ := HL9.out.pb
            simp only at k0 k1 k2 l0 l1 l2
            go_wp2
            go_ret2
            exact ⟨rfl, g9, cap9, sl9, HX9.out, HB9.out⟩
        · have hz : ((ap : Int) != (fp : Int)) = true := by rw [bne_iff_ne]; omega
          by_cases hfl : (ino t ap).es.length = 16
          · have hq : Q = ((0, 2), t) := by rw [HQ.out, if_neg (by simp), if_neg (by simp), if_pos ⟨hpp, hfl⟩]
            subst hq
            have hd : decide ((ino t ap).es.length = 16) = true := by simpa using hfl
            rw [hd] at CF
            clear hd hfl HQ CE CA CT1 CT2 hq1 hpp
            go_enter Tryz.func70, Tryz.ntmps70
            go_wp2_with fail
            refine CR.out.mono ?_
            rintro e w1 ⟨rfl, b1⟩
            have B3 := Lib.hid (b1.alloc b1.size (.cells #[.int .i64 (fp : Int), .string fn, .int .i64 fi] 160))
            have HK3 := Lib.hid (PlB.new w1 ⟨fp, fn, fi⟩)
            clear b1
            go_upto_region 4 with fail
            generalize w1.alloc (.cells #[.int .i64 (fp : Int), .string fn, .int .i64 fi] 160) = w3 at *
            generalize w1.heap.size = A at *
            have y3 := (B3.out.cell (p := ⟨X, 3, none⟩) xl).trans x3
            have y4 := (B3.out.cell (p := ⟨X, 4, none⟩) xl).trans x4
            have xl3 := Nat.lt_of_lt_of_le xl B3.out.size
            go_region_with (go_at_call 133; refine (CB.out _ (below_drewN B3.out _)).mono ?_; rintro e z ⟨rfl, hz⟩)
            all_goals
              have hz3 : Below w3.heap.size w3 z := by first | exact hz | exact ((Below.refl w3.heap.size w3).drew).trans hz
              have B4 := Lib.hid (B3.out.trans (hz3.mono B3.out.size))
              have HK4 := Lib.hid (HK3.out.up hz3)
              clear y3 y4 hz hz3

              have y4 := (B4.out.cell (p := ⟨X, 4, none⟩) xl).trans x4
              go_wp2_with fail
              refine (CV.out _ B4.out).mono ?_
              rintro e w5 ⟨rfl, b5⟩
              have B6 := Lib.hid ((B4.out.trans (b5.mono B4.out.size)).alloc (Nat.le_trans B4.out.size b5.size) (.cells #[.int .i64 (ap : Int), .string an, .int .i64 ai] 160))
              have HL6 := Lib.hid (PlB.new w5 ⟨ap, an, ai⟩)
              have HK6 := Lib.hid (PlB.up (w := w5) (HK4.out.up b5) ((Below.refl _ _).alloc (Nat.le_refl _) (.cells #[.int .i64 (ap : Int), .string an, .int .i64 ai] 160)))
              clear y4 b5
              go_upto_region 9 with fail
              generalize w5.alloc (.cells #[.int .i64 (ap : Int), .string an, .int .i64 ai] 160) = w6 at *
              generalize w5.heap.size = C at *
              obtain ⟨kl, k0, k1, k2, _, _, _⟩ := HK6.out.pb
              obtain ⟨ll, l0, l1, l2, _, _, _⟩ := HL6.out.pb
              simp only at k0 k1 k2 l0 l1 l2
              go_wp2_with fail
              refine (CF.out _ B6.out).mono ?_
              rintro e w7 ⟨rfl, rfl⟩
              go_wp2
              go_ret2
              exact ⟨rfl, g, cap, sl, H.out.up B6.out, B6.out.mono H.out.base.1, Typ.of_below B6.out⟩
          · have hq : Q = ((fi, 0), t4) := by rw [HQ.out, if_neg (by simp), if_neg (by simp), if_neg (fun h => hfl h.2), if_pos hpp]
            subst hq
            have hd : decide ((ino t ap).es.length = 16) = false := by simpa using hfl
            rw [hd] at CF
            clear hd hfl HQ hq1 hpp
            go_enter Tryz.func70, Tryz.ntmps70
            go_wp2_with fail
            refine CR.out.mono ?_
            rintro e w1 ⟨rfl, b1⟩
            have B3 := Lib.hid (b1.alloc b1.size (.cells #[.int .i64 (fp : Int), .string fn, .int .i64 fi] 160))
            have HK3 := Lib.hid (PlB.new w1 ⟨fp, fn, fi⟩)
            clear b1
            go_upto_region 4 with fail
            generalize w1.alloc (.cells #[.int .i64 (fp : Int), .string fn, .int .i64 fi] 160) = w3 at *
            generalize w1.heap.size = A at *
            have y3 := (B3.out.cell (p := ⟨X, 3, none⟩) xl).trans x3
            have y4 := (B3.out.cell (p := ⟨X, 4, none⟩) xl).trans x4
            have xl3 := Nat.lt_of_lt_of_le xl B3.out.size
            go_region_with (go_at_call 133; refine (CB.out _ (below_drewN B3.out _)).mono ?_; rintro e z ⟨rfl, hz⟩)
            all_goals
              have hz3 : Below w3.heap.size w3 z := by first | exact hz | exact ((Below.refl w3.heap.size w3).drew).trans hz
              have B4 := Lib.hid (B3.out.trans (hz3.mono B3.out.size))
              have HK4 := Lib.hid (HK3.out.up hz3)
              clear y3 y4 hz hz3

              have y4 := (B4.out.cell (p := ⟨X, 4, none⟩) xl).trans x4
              go_wp2_with fail
              refine (CV.out _ B4.out).mono ?_
              rintro e w5 ⟨rfl, b5⟩
              have B6 := Lib.hid ((B4.out.trans (b5.mono B4.out.size)).alloc (Nat.le_trans B4.out.size b5.size) (.cells #[.int .i64 (ap : Int), .string an, .int .i64 ai] 160))
              have HL6 := Lib.hid (PlB.new w5 ⟨ap, an, ai⟩)
              have HK6 := Lib.hid (PlB.up (w := w5) (HK4.out.up b5) ((Below.refl _ _).alloc (Nat.le_refl _) (.cells #[.int .i64 (ap : Int), .string an, .int .i64 ai] 160)))
              clear y4 b5
              go_upto_region 9 with fail
              generalize w5.alloc (.cells #[.int .i64 (ap : Int), .string an, .int .i64 ai] 160) = w6 at *
              generalize w5.heap.size = C at *
              obtain ⟨kl, k0, k1, k2, _, _, _⟩ := HK6.out.pb
              obtain ⟨ll, l0, l1, l2, _, _, _⟩ := HL6.out.pb
              simp only at k0 k1 k2 l0 l1 l2
              go_wp2_with fail
              refine (CF.out _ B6.out).mono ?_
              rintro e w7 ⟨rfl, rfl⟩
              go_wp2_with fail
              refine (CE.out _ B6.out).mono ?_
              rintro e w7 ⟨rfl, g7, cap7, sl7, hx7, hb7, ht7⟩
              have HX7 := Lib.hid hx7
              have HB7 := Lib.hid (show Below base w w7 ∧ Typ w w7 from ⟨(B6.out.mono H.out.base.1).trans hb7, (Typ.of_below B6.out).trans ht7⟩)
              have HK7 := Lib.hid (HK6.out.typ ht7)
              have HL7 := Lib.hid (HL6.out.typ ht7)
              clear hx7 hb7 ht7 k0 k1 k2 l0 l1 l2 kl ll
              obtain ⟨kl, k0, k1, k2, _, _, _⟩ := HK7.out.pb
              obtain ⟨ll, l0, l1, l2, _, _, _⟩ := HL7.out.pb
              simp only at k0 k1 k2 l0 l1 l2
              go_wp2_with fail
              refine (CA.out _ _ _ _ HX7.out).mono ?_
              rintro e w8 ⟨rfl, g8, cap8, sl8, hx8, hb8, ht8⟩
              have HX8 := Lib.hid hx8
              have HB8 := Lib.hid (show Below base w w8 ∧ Typ w w8 from ⟨HB7.out.1.trans hb8, HB7.out.2.trans ht8⟩)
              have HK8 := Lib.hid (HK7.out.typ ht8)
              have HL8 := Lib.hid (HL7.out.typ ht8)
              clear hx8 hb8 ht8 k0 k1 k2 l0 l1 l2 kl ll
              obtain ⟨kl, k0, k1, k2, _, _, _⟩ := HK8.out.pb
              obtain ⟨ll, l0, l1, l2, _, _, _⟩ := HL8.out.pb
              simp only at k0 k1 k2 l0 l1 l2
              go_wp2_with fail
              refine (CT1.out _ _ _ _ HX8.out).mono ?_
              rintro e w9 ⟨rfl, g9, cap9, sl9, hx9, hb9, ht9⟩
              have HX9 := Lib.hid hx9
              have HB9 := Lib.hid (show Below base w w9 ∧ Typ w w9 from ⟨HB8.out.1.trans hb9, HB8.out.2.trans ht9⟩)
              have HK9 := Lib.hid (HK8.out.typ ht9)
              have HL9 := Lib.hid (HL8.out.typ ht9)
              clear hx9 hb9 ht9 k0 k1 k2 l0 l1 l2 kl ll
              obtain ⟨kl, k0, k1, k2, _, _, _⟩ := HK9.out.pb
              obtain ⟨ll, l0, l1, l2, _, _, _⟩ := HL9.out.pb
              simp only at k0 k1 k2 l0 l1 l2
              go_wp2_with fail
              refine (CT2.out _ _ _ _ HX9.out).mono ?_
              rintro e wa ⟨rfl, ga, capa, sla, hxa, hba, hta⟩
              have HXa := Lib.hid hxa
              have HBa := Lib.hid (show Below base w wa ∧ Typ w wa from ⟨HB9.out.1.trans hba, HB9.out.2.trans hta⟩)
              have HKa := Lib.hid (HK9.out.typ hta)
              clear hxa hba hta k0 k1 k2 l0 l1 l2 kl ll
              obtain ⟨kl, k0, k1, k2, _, _, _⟩ := HKa.out.pb
              simp only at k0 k1 k2
              go_wp2
              go_ret2
              exact ⟨rfl, ga, capa, sla, HXa.out, HBa.out⟩
      · have hq : Q = ((0, vc), t) := by rw [HQ.out, if_neg (by simp), if_pos hvc]
        subst hq
        have hcc1 : (vc != 0) = true := by simpa using hvc
        clear HQ CE CA CT1 CT2 CF hq1 hvc
        go_enter Tryz.func70, Tryz.ntmps70
        go_wp2_with fail
        refine CR.out.mono ?_
        rintro e w1 ⟨rfl, b1⟩
        have B3 := Lib.hid (b1.alloc b1.size (.cells #[.int .i64 (fp : Int), .string fn, .int .i64 fi] 160))
        have HK3 := Lib.hid (PlB.new w1 ⟨fp, fn, fi⟩)
        clear b1
        go_upto_region 4 with fail
        generalize w1.alloc (.cells #[.int .i64 (fp : Int), .string fn, .int .i64 fi] 160) = w3 at *
        generalize w1.heap.size = A at *
        have y3 := (B3.out.cell (p := ⟨X, 3, none⟩) xl).trans x3
        have y4 := (B3.out.cell (p := ⟨X, 4, none⟩) xl).trans x4
        have xl3 := Nat.lt_of_lt_of_le xl B3.out.size
        go_region_with (go_at_call 133; refine (CB.out _ (below_drewN B3.out _)).mono ?_; rintro e z ⟨rfl, hz⟩)
        all_goals
          have hz3 : Below w3.heap.size w3 z := by first | exact hz | exact ((Below.refl w3.heap.size w3).drew).trans hz
          have B4 := Lib.hid (B3.out.trans (hz3.mono B3.out.size))
          have HK4 := Lib.hid (HK3.out.up hz3)
          clear y3 y4 hz hz3

          have y4 := (B4.out.cell (p := ⟨X, 4, none⟩) xl).trans x4
          go_wp2_with fail
          refine (CV.out _ B4.out).mono ?_
          rintro e w5 ⟨rfl, b5⟩
          have B6 := Lib.hid ((B4.out.trans (b5.mono B4.out.size)).alloc (Nat.le_trans B4.out.size b5.size) (.cells #[.int .i64 (ap : Int), .string an, .int .i64 ai] 160))
          have HL6 := Lib.hid (PlB.new w5 ⟨ap, an, ai⟩)
          have HK6 := Lib.hid (PlB.up (w := w5) (HK4.out.up b5) ((Below.refl _ _).alloc (Nat.le_refl _) (.cells #[.int .i64 (ap : Int), .string an, .int .i64 ai] 160)))
          clear y4 b5
          go_wp2
          go_ret2
          exact ⟨rfl, g, cap, sl, H.out.up B6.out, B6.out.mono H.out.base.1, Typ.of_below B6.out⟩
  · have HQ := Lib.hid (show mvF t r = ((0, (removeF t r.u r.p).2), t) by unfold mvF; rw [if_pos hc])
    rw [HQ.out]
    clear HQ CB CV
    generalize removeF t r.u r.p = U at *
    obtain ⟨a, u2⟩ := U
    obtain ⟨ap, an, ai⟩ := a
    unfold plV at *
    simp only at *
    have hcc1 : (u2 != 0) = true := by simpa using hc
    clear h gm h1 hv
    go_enter Tryz.func70, Tryz.ntmps70
    go_wp2_with fail
    refine CR.out.mono ?_
    rintro e w1 ⟨rfl, b1⟩
    have B1 := Lib.hid b1
    have B2 := Lib.hid (B1.out.alloc B1.out.size (.cells #[.int .i64 (ap : Int), .string an, .int .i64 ai] 160))
    clear b1
    go_wp2
    go_ret2
    exact ⟨rfl, g, cap, sl, H.out.up B2.out, B2.out.mono H.out.base.1, Typ.of_below B2.out⟩

end Go.Proofs.YtmbbmmnpkdfecaaGreatDoor
