/- memfs.Apply keeps a valid tree valid: the law MemfsApplyPreservesValidity.
   Condition: as each theorem states; this text: MfLawPres, MfPresProof. -/
import Derived.Test.YtacabfhkinfpbaaGreatDoorMb34
import Derived.Test.YtacabfhkinfpbaaGreatDoorCards
import Derived.Test.YtacabfhkinfpbaaGreatDoorTie
import Derived.Test.YtacabfhkinfpbaaGreatDoorMb32
import Derived.ProofKit
import Derived.SizedLaws
import Derived.OpenShut
import Derived.ShutString
import Derived.ChangeMaps5
import Derived.Deep.DeepHandedRow
import Derived.Lay
import Derived.LaidMore
import Derived.SevenTiedAt

set_option linter.all false

/- the tree after any request is valid, and a request that fails leaves the tree unchanged and returns only a code: the law MemfsApplyPreservesValidity returns true. Conditions: the tree and the request lie in memory as they read; the door's variable lies in memory. -/
namespace Go.Proofs.YtacabfhkinfpbaaGreatDoor
open Go.RowKit

set_option maxRecDepth 100000 in
set_option maxHeartbeats 6400000 in
theorem lawPresBad_any (a : Option Addr) (c : Nat) (t : FT) (r : Rq) (vd va : Value) (w : World) (gm : GM w) (h : FNods w w.heap.size a c t) (hr : RqS w w.heap.size vd va r) (hbad : ¬ ((valT (tr t)).1 = 0 ∧ rqC r = 0)) :
    Calls Tryz.prog 3 #[.agg #[.slice a t.length c], rqV r vd va] w fun e w' => e = .returned (.bool true) ∧ Below w.heap.size w w' := by
  obtain ⟨qa, qc, rfl, hqd⟩ := id hr.d
  obtain ⟨pa, pc, rfl, hpd⟩ := id hr.ac
  clear hqd hpd
  have T := Lib.hid (two_new w [.slice a t.length c] (rqL r (.slice qa r.d.length qc) (.slice pa r.ac.length pc)) 24 30)
  unfold rqL at T
  have CE := Lib.hid (fun W (hb : Below w.heap.size w W) => example_any W (gm.below hb))
  have CA := Lib.hid (fun W (hb : Below w.heap.size w W) => (applyFault_any a c t r (.slice qa r.d.length qc) (.slice pa r.ac.length pc) W (gm.below hb) (h.up hb) (hr.up hb) hbad).2)
  have hne := (applyFault_any a c t r (.slice qa r.d.length qc) (.slice pa r.ac.length pc) w gm h hr hbad).1
  clear gm h hr hbad
  unfold rpV at CA
  generalize (fltF t r).1 = fc at *
  generalize (fltF t r).2 = fi at *
  have hcc : (fc != 0) = true := by simpa using hne
  clear hne
  unfold rqV at *
  go_enter Tryz.func3, Tryz.ntmps3
  go_upto_region 1 with fail
  generalize (w.alloc (.cells #[.slice a t.length c] 24)).alloc (.cells #[.int .i64 r.k, .int .i64 r.u, .string r.p, .string r.t, .int .i64 r.off, .int .i64 r.sz, .slice qa r.d.length qc, .slice pa r.ac.length pc, .string r.a.n, .string r.a.v] 30) = w2 at *
  generalize w.heap.size + 1 = N at *
  obtain ⟨tb, tt, tr'⟩ := T.out
  have B2 := Lib.hid tb
  have KT := Lib.hid tt
  have KR := Lib.hid tr'
  clear tb tt tr' T
  have k0 := KT.out.c 0 _ rfl
  have u0 := KR.out.c 0 _ rfl
  have u1 := KR.out.c 1 _ rfl
  have u2 := KR.out.c 2 _ rfl
  have u3 := KR.out.c 3 _ rfl
  have u4 := KR.out.c 4 _ rfl
  have u5 := KR.out.c 5 _ rfl
  have u6 := KR.out.c 6 _ rfl
  have u7 := KR.out.c 7 _ rfl
  have u8 := KR.out.c 8 _ rfl
  have u9 := KR.out.c 9 _ rfl
  have kl := KT.out.lt
  have ul := KR.out.lt
  go_wp2_with fail
  refine (CA.out _ B2.out).mono ?_
  rintro e z ⟨hbz, rfl⟩
  have BZ := Lib.hid (B2.out.trans (hbz.mono B2.out.size))
  clear hbz k0 u0 u1 u2 u3 u4 u5 u6 u7 u8 u9 kl ul KT KR
  have TN := Lib.hid (three_new z [.slice none 0 0] [.int .i64 0, .slice none 0 0, .slice none 0 0, .int .i64 0, .int .i64 0, .int .i64 0, .int .i64 0, .int .i64 0, .int .i64 0] [.int .i64 fc, .int .i64 fi] 24 35 37)
  go_upto_region 2 with fail
  have B5 := Lib.hid (BZ.out.trans (TN.out.1.mono BZ.out.size))
  generalize ((z.alloc (.cells #[.slice none 0 0] 24)).alloc (.cells #[.int .i64 0, .slice none 0 0, .slice none 0 0, .int .i64 0, .int .i64 0, .int .i64 0, .int .i64 0, .int .i64 0, .int .i64 0] 35)).alloc (.cells #[.int .i64 fc, .int .i64 fi] 37) = w5 at *
  generalize z.heap.size + 1 + 1 = n3 at *
  generalize z.heap.size + 1 = n2 at *
  generalize z.heap.size = n1 at *
  go_wp2_with fail
  refine (CE.out _ B5.out).mono ?_
  rintro e w6 ⟨rfl, b6⟩
  have B6 := Lib.hid (B5.out.trans (b6.mono B5.out.size))
  obtain ⟨_, TU, TP, TF⟩ := TN.out
  have K1 := TU.up b6
  have K2 := TP.up b6
  have K3 := TF.up b6
  have t0 := K1.c 0 _ rfl
  have tl := K1.lt
  have p0 := K2.c 0 _ rfl
  have p1 := K2.c 1 _ rfl
  have p2 := K2.c 2 _ rfl
  have p3 := K2.c 3 _ rfl
  have p4 := K2.c 4 _ rfl
  have p5 := K2.c 5 _ rfl
  have p6 := K2.c 6 _ rfl
  have p7 := K2.c 7 _ rfl
  have p8 := K2.c 8 _ rfl
  have pl := K2.lt
  have f0 := K3.c 0 _ rfl
  have fl := K3.lt
  clear b6 TU TP TF K1 K2 K3 TN
  go_wp2
  go_ret
  exact ⟨rfl, B6.out⟩

set_option maxRecDepth 100000 in
set_option maxHeartbeats 6400000 in
theorem lawPresOk_any (a : Option Addr) (c : Nat) (t : FT) (r : Rq) (vd va : Value) (w : World) (gm : GM w) (h : FNods w w.heap.size a c t) (hr : RqS w w.heap.size vd va r) (hv : (valT (tr t)).1 = 0) (hq : rqC r = 0) :
    Calls Tryz.prog 3 #[.agg #[.slice a t.length c], rqV r vd va] w fun e w' => e = .returned (.bool true) ∧ Below w.heap.size w w' := by
  obtain ⟨qa, qc, rfl, hqd⟩ := id hr.d
  obtain ⟨pa, pc, rfl, hpd⟩ := id hr.ac
  clear hqd hpd
  have T := Lib.hid (two_new w [.slice a t.length c] (rqL r (.slice qa r.d.length qc) (.slice pa r.ac.length pc)) 24 30)
  unfold rqL at T
  have CE := Lib.hid (fun W (hb : Below w.heap.size w W) => example_any W (gm.below hb))
  have CA := Lib.hid (fun W (hb : Below w.heap.size w W) => applyOk_any a c t r (.slice qa r.d.length qc) (.slice pa r.ac.length pc) W (gm.below hb) (h.up hb) (hr.up hb) hv hq)
  have hval := apply_valid hv r
  have HER := Lib.hid (fun hc => apply_err (t := t) (r := r) hc)
  have HT := Lib.hid h
  unfold rpV at CA
  clear gm h hr hv
  generalize applyF t r = AF at *
  obtain ⟨t', p⟩ := AF
  simp only at CA hval HER
  have CV := Lib.hid (fun W B g cap sl (hO : OT W B g cap sl t') => validT_any (some ⟨g, 0, none⟩) cap (tr t') W hO.fnods.nods)
  unfold faultV at CV
  simp only [tr_len] at CV
  rw [valT_zero hval] at CV
  have hfd := fun W => field_code 0 0 W
  clear hval
  by_cases hc : p.c = 0
  · have HC := Lib.hid hc
    clear HER hc
    unfold rqV at *
    go_enter Tryz.func3, Tryz.ntmps3
    go_upto_region 1 with fail
    generalize (w.alloc (.cells #[.slice a t.length c] 24)).alloc (.cells #[.int .i64 r.k, .int .i64 r.u, .string r.p, .string r.t, .int .i64 r.off, .int .i64 r.sz, .slice qa r.d.length qc, .slice pa r.ac.length pc, .string r.a.n, .string r.a.v] 30) = w2 at *
    generalize w.heap.size + 1 = N at *
    obtain ⟨tb, tt, tr'⟩ := T.out
    have B2 := Lib.hid tb
    have KT := Lib.hid tt
    have KR := Lib.hid tr'
    clear tb tt tr' T
    have k0 := KT.out.c 0 _ rfl
    have u0 := KR.out.c 0 _ rfl
    have u1 := KR.out.c 1 _ rfl
    have u2 := KR.out.c 2 _ rfl
    have u3 := KR.out.c 3 _ rfl
    have u4 := KR.out.c 4 _ rfl
    have u5 := KR.out.c 5 _ rfl
    have u6 := KR.out.c 6 _ rfl
    have u7 := KR.out.c 7 _ rfl
    have u8 := KR.out.c 8 _ rfl
    have u9 := KR.out.c 9 _ rfl
    have kl := KT.out.lt
    have ul := KR.out.lt
    go_wp2_with fail
    refine (CA.out _ B2.out).mono ?_
    rintro e z ⟨hbz, g, cap, sl, vd', vn', rfl, ho, hs⟩
    obtain ⟨da, dc, rfl, hda⟩ := id hs.d
    obtain ⟨na, nc, rfl, hna⟩ := id hs.ns
    have BZ := Lib.hid (B2.out.trans (hbz.mono B2.out.size))
    have KTZ := Lib.hid (KT.out.up hbz)
    have KRZ := Lib.hid (KR.out.up hbz)
    have OZ := Lib.hid ho
    have SZ := Lib.hid hs
    clear hda hna hbz ho hs k0 u0 u1 u2 u3 u4 u5 u6 u7 u8 u9 kl ul KT KR
    have TN := Lib.hid (three_new z [.slice (some ⟨g, 0, none⟩) t'.length cap] [.int .i64 p.c, .slice da p.d.length dc, .slice na p.ns.length nc, .int .i64 p.s.i, .int .i64 p.s.k, .int .i64 p.s.o, .int .i64 p.s.z, .int .i64 p.s.l, .int .i64 p.s.v] [.int .i64 0, .int .i64 0] 24 35 37)
    go_upto_region 2 with fail
    have B5 := Lib.hid (BZ.out.trans (TN.out.1.mono BZ.out.size))
    generalize ((z.alloc (.cells #[.slice (some ⟨g, 0, none⟩) t'.length cap] 24)).alloc (.cells #[.int .i64 p.c, .slice da p.d.length dc, .slice na p.ns.length nc, .int .i64 p.s.i, .int .i64 p.s.k, .int .i64 p.s.o, .int .i64 p.s.z, .int .i64 p.s.l, .int .i64 p.s.v] 35)).alloc (.cells #[.int .i64 0, .int .i64 0] 37) = w5 at *
    generalize z.heap.size + 1 + 1 = n3 at *
    generalize z.heap.size + 1 = n2 at *
    generalize hn1 : z.heap.size = n1 at *
    go_wp2_with fail
    refine (CE.out _ B5.out).mono ?_
    rintro e w6 ⟨rfl, b6⟩
    have B6 := Lib.hid (B5.out.trans (b6.mono B5.out.size))
    obtain ⟨b5, TU, TP, TF⟩ := TN.out
    rw [← hn1] at b5
    have bz6 : Below z.heap.size z w6 := b5.trans (b6.mono b5.size)
    have K1 := TU.up b6
    have K2 := TP.up b6
    have K3 := TF.up b6
    have KT6 := KTZ.out.up bz6
    have KR6 := KRZ.out.up bz6
    have O6 := Lib.hid (OZ.out.up bz6)
    have S6 := Lib.hid (RpS.up (by rw [hn1]; exact SZ.out) bz6)
    have k0 := KT6.c 0 _ rfl
    have kl := KT6.lt
    have u0 := KR6.c 0 _ rfl
    have ul := KR6.lt
    have t0 := K1.c 0 _ rfl
    have tl := K1.lt
    have p0 := K2.c 0 _ rfl
    have p1 := K2.c 1 _ rfl
    have p2 := K2.c 2 _ rfl
    have p3 := K2.c 3 _ rfl
    have p4 := K2.c 4 _ rfl
    have p5 := K2.c 5 _ rfl
    have p6 := K2.c 6 _ rfl
    have p7 := K2.c 7 _ rfl
    have p8 := K2.c 8 _ rfl
    have pl := K2.lt
    have f0 := K3.c 0 _ rfl
    have fl := K3.lt
    clear b6 b5 bz6 TU TP TF K1 K2 K3 TN KT6 KR6 hn1 OZ SZ KTZ KRZ
    rw [HC.out] at p0
    go_wp2_with fail
    refine (CV.out _ _ _ _ _ O6.out).mono ?_
    rintro e w7 ⟨rfl, b7⟩
    have B7 := Lib.hid (B6.out.trans (b7.mono B6.out.size))
    replace p0 := (b7.cell (p := ⟨n2, 0, none⟩) pl).trans p0
    replace pl := Nat.lt_of_lt_of_le pl b7.size
    clear b7
    go_wp2
    go_ret
    exact ⟨rfl, B7.out⟩
  · have hAF := HER.out hc
    injection hAF with ht' hp'
    have ht2 := ht'.symm
    subst ht2
    clear ht'
    have hpc : (p.c == 0) = false := by simpa using hc
    have CTS := Lib.hid (fun W g cap (h1 : FNods W W.heap.size a c t) (h2 : FNods W W.heap.size (some ⟨g, 0, none⟩) cap t) => treesSame_any a (some ⟨g, 0, none⟩) c cap t W h1 h2)
    have CRS := Lib.hid (fun W (d1 n1 : Value) (hs : RpS W 0 W.heap.size d1 n1 p) => by
      have := repliesSame_any p d1 (.slice none 0 0) n1 (.slice none 0 0) W W.heap.size W.heap.size (Nat.le_refl _) (Nat.le_refl _) hs.d (by rw [hp']; exact Byts.none_ _ _) hs.ns (by rw [hp']; exact Strs.none_ _ _)
      exact this)
    unfold rpV at CRS
    have hz : p.s.i = 0 ∧ p.s.k = 0 ∧ p.s.o = 0 ∧ p.s.z = 0 ∧ p.s.l = 0 ∧ p.s.v = 0 := by rw [hp']; exact ⟨rfl, rfl, rfl, rfl, rfl, rfl⟩
    have HZ := Lib.hid hz
    clear HER hp' hc hz
    unfold rqV at *
    go_enter Tryz.func3, Tryz.ntmps3
    go_upto_region 1 with fail
    generalize (w.alloc (.cells #[.slice a t.length c] 24)).alloc (.cells #[.int .i64 r.k, .int .i64 r.u, .string r.p, .string r.t, .int .i64 r.off, .int .i64 r.sz, .slice qa r.d.length qc, .slice pa r.ac.length pc, .string r.a.n, .string r.a.v] 30) = w2 at *
    generalize w.heap.size + 1 = N at *
    obtain ⟨tb, tt, tr'⟩ := T.out
    have B2 := Lib.hid tb
    have KT := Lib.hid tt
    have KR := Lib.hid tr'
    clear tb tt tr' T
    have k0 := KT.out.c 0 _ rfl
    have u0 := KR.out.c 0 _ rfl
    have u1 := KR.out.c 1 _ rfl
    have u2 := KR.out.c 2 _ rfl
    have u3 := KR.out.c 3 _ rfl
    have u4 := KR.out.c 4 _ rfl
    have u5 := KR.out.c 5 _ rfl
    have u6 := KR.out.c 6 _ rfl
    have u7 := KR.out.c 7 _ rfl
    have u8 := KR.out.c 8 _ rfl
    have u9 := KR.out.c 9 _ rfl
    have kl := KT.out.lt
    have ul := KR.out.lt
    go_wp2_with fail
    refine (CA.out _ B2.out).mono ?_
    rintro e z ⟨hbz, g, cap, sl, vd', vn', rfl, ho, hs⟩
    obtain ⟨da, dc, rfl, hda⟩ := id hs.d
    obtain ⟨na, nc, rfl, hna⟩ := id hs.ns
    have BZ := Lib.hid (B2.out.trans (hbz.mono B2.out.size))
    have KTZ := Lib.hid (KT.out.up hbz)
    have KRZ := Lib.hid (KR.out.up hbz)
    have OZ := Lib.hid ho
    have SZ := Lib.hid hs
    clear hda hna hbz ho hs k0 u0 u1 u2 u3 u4 u5 u6 u7 u8 u9 kl ul KT KR
    have TN := Lib.hid (three_new z [.slice (some ⟨g, 0, none⟩) t.length cap] [.int .i64 p.c, .slice da p.d.length dc, .slice na p.ns.length nc, .int .i64 p.s.i, .int .i64 p.s.k, .int .i64 p.s.o, .int .i64 p.s.z, .int .i64 p.s.l, .int .i64 p.s.v] [.int .i64 0, .int .i64 0] 24 35 37)
    go_upto_region 2 with fail
    have B5 := Lib.hid (BZ.out.trans (TN.out.1.mono BZ.out.size))
    generalize ((z.alloc (.cells #[.slice (some ⟨g, 0, none⟩) t.length cap] 24)).alloc (.cells #[.int .i64 p.c, .slice da p.d.length dc, .slice na p.ns.length nc, .int .i64 p.s.i, .int .i64 p.s.k, .int .i64 p.s.o, .int .i64 p.s.z, .int .i64 p.s.l, .int .i64 p.s.v] 35)).alloc (.cells #[.int .i64 0, .int .i64 0] 37) = w5 at *
    generalize z.heap.size + 1 + 1 = n3 at *
    generalize z.heap.size + 1 = n2 at *
    generalize hn1 : z.heap.size = n1 at *
    go_wp2_with fail
    refine (CE.out _ B5.out).mono ?_
    rintro e w6 ⟨rfl, b6⟩
    have B6 := Lib.hid (B5.out.trans (b6.mono B5.out.size))
    obtain ⟨b5, TU, TP, TF⟩ := TN.out
    rw [← hn1] at b5
    have bz6 : Below z.heap.size z w6 := b5.trans (b6.mono b5.size)
    have K1 := TU.up b6
    have K2 := TP.up b6
    have K3 := TF.up b6
    have KT6 := KTZ.out.up bz6
    have KR6 := KRZ.out.up bz6
    have O6 := Lib.hid (OZ.out.up bz6)
    have S6 := Lib.hid (RpS.up (by rw [hn1]; exact SZ.out) bz6)
    have k0 := KT6.c 0 _ rfl
    have kl := KT6.lt
    have u0 := KR6.c 0 _ rfl
    have ul := KR6.lt
    have t0 := K1.c 0 _ rfl
    have tl := K1.lt
    have p0 := K2.c 0 _ rfl
    have p1 := K2.c 1 _ rfl
    have p2 := K2.c 2 _ rfl
    have p3 := K2.c 3 _ rfl
    have p4 := K2.c 4 _ rfl
    have p5 := K2.c 5 _ rfl
    have p6 := K2.c 6 _ rfl
    have p7 := K2.c 7 _ rfl
    have p8 := K2.c 8 _ rfl
    have pl := K2.lt
    have f0 := K3.c 0 _ rfl
    have fl := K3.lt
    clear b6 b5 bz6 TU TP TF K1 K2 K3 TN KT6 KR6 hn1 OZ SZ KTZ KRZ
    have HT6 := Lib.hid (HT.out.up B6.out)
    go_wp2_with fail
    refine (CV.out _ _ _ _ _ O6.out).mono ?_
    rintro e w7 ⟨rfl, b7⟩
    have B7 := Lib.hid (B6.out.trans (b7.mono B6.out.size))
    have HT7 := Lib.hid (HT6.out.up b7)
    have O7 := Lib.hid (O6.out.up b7)
    have S7 := Lib.hid (S6.out.up b7)
    replace k0 := (b7.cell (p := ⟨w.heap.size, 0, none⟩) kl).trans k0
    replace t0 := (b7.cell (p := ⟨n1, 0, none⟩) tl).trans t0
    replace p0 := (b7.cell (p := ⟨n2, 0, none⟩) pl).trans p0
    replace p1 := (b7.cell (p := ⟨n2, 1, none⟩) pl).trans p1
    replace p2 := (b7.cell (p := ⟨n2, 2, none⟩) pl).trans p2
    replace p3 := (b7.cell (p := ⟨n2, 3, none⟩) pl).trans p3
    replace p4 := (b7.cell (p := ⟨n2, 4, none⟩) pl).trans p4
    replace p5 := (b7.cell (p := ⟨n2, 5, none⟩) pl).trans p5
    replace p6 := (b7.cell (p := ⟨n2, 6, none⟩) pl).trans p6
    replace p7 := (b7.cell (p := ⟨n2, 7, none⟩) pl).trans p7
    replace p8 := (b7.cell (p := ⟨n2, 8, none⟩) pl).trans p8
    replace pl := Nat.lt_of_lt_of_le pl b7.size
    replace tl := Nat.lt_of_lt_of_le tl b7.size
    replace kl := Nat.lt_of_lt_of_le kl b7.size
    clear b7
    go_wp2_with fail
    refine (CTS.out _ _ _ HT7.out O7.out.fnods).mono ?_
    rintro e w8 ⟨rfl, b8⟩
    have B8 := Lib.hid (B7.out.trans (b8.mono B7.out.size))
    have S8 := Lib.hid (S7.out.up b8)
    replace p0 := (b8.cell (p := ⟨n2, 0, none⟩) pl).trans p0
    replace p1 := (b8.cell (p := ⟨n2, 1, none⟩) pl).trans p1
    replace p2 := (b8.cell (p := ⟨n2, 2, none⟩) pl).trans p2
    replace p3 := (b8.cell (p := ⟨n2, 3, none⟩) pl).trans p3
    replace p4 := (b8.cell (p := ⟨n2, 4, none⟩) pl).trans p4
    replace p5 := (b8.cell (p := ⟨n2, 5, none⟩) pl).trans p5
    replace p6 := (b8.cell (p := ⟨n2, 6, none⟩) pl).trans p6
    replace p7 := (b8.cell (p := ⟨n2, 7, none⟩) pl).trans p7
    replace p8 := (b8.cell (p := ⟨n2, 8, none⟩) pl).trans p8
    replace pl := Nat.lt_of_lt_of_le pl b8.size
    have CR8 := Lib.hid (CRS.out w8 _ _ (S8.out.lower (Nat.zero_le _)))
    obtain ⟨z1, z2, z3, z4, z5, z6⟩ := HZ.out
    rw [z1, z2, z3, z4, z5, z6] at CR8
    rw [z1] at p3
    rw [z2] at p4
    rw [z3] at p5
    rw [z4] at p6
    rw [z5] at p7
    rw [z6] at p8
    clear b8 CRS z1 z2 z3 z4 z5 z6 HZ
    go_wp2_with fail
    refine CR8.out.mono ?_
    rintro e w9 ⟨rfl, b9⟩
    have B9 := Lib.hid (B8.out.trans (b9.mono B8.out.size))
    clear b9
    go_wp2
    go_ret
    exact ⟨rfl, B9.out⟩

theorem lawPres_any (a : Option Addr) (c : Nat) (t : FT) (r : Rq) (vd va : Value) (w : World) (gm : GM w) (h : FNods w w.heap.size a c t) (hr : RqS w w.heap.size vd va r) :
    Calls Tryz.prog 3 #[.agg #[.slice a t.length c], rqV r vd va] w fun e w' => e = .returned (.bool true) ∧ Below w.heap.size w w' := by
  by_cases hh : (valT (tr t)).1 = 0 ∧ rqC r = 0
  · exact lawPresOk_any a c t r vd va w gm h hr hh.1 hh.2
  · exact lawPresBad_any a c t r vd va w gm h hr hh

end Go.Proofs.YtacabfhkinfpbaaGreatDoor

/- MemfsApplyPreservesValidity: for every tree and every request the law returns true: the tree behind memfs.Apply is valid, and a request that is refused leaves the tree as it was and answers with a code alone; the arguments are left as they were.
   Condition: the listed variables of package unicode/utf8 hold what the program's text lays (the card ties them); no other condition on the arguments. -/
namespace Go.Proofs.YtacabfhkinfpbaaGreatDoor.rowMemfsApplyPreservesValidity
open Go.ChangeShapes Go.WideShapes Go.ChangeAt Go.ChangeMaps Go.RowKit

theorem own : ownKnob Tryz.prog.godebug = none := by kernel_rfl
theorem laidOut : laidOutB Tryz.prog = true := by kernel_rfl
theorem gm_of {W : World} (h : W.ShapedOpen Tryz.prog) : GM W := by
  obtain ⟨m, hm⟩ := Tryz.laysM146.s1_3 W h
  exact ⟨cell_lt hm, m, hm⟩

noncomputable def w0 (os : Os) : World := World.laidAll Tryz.prog os Rows.memfsApplyPreservesValidityRow.laid
theorem laid_met (os : Os) : laidMetH Tryz.prog Rows.memfsApplyPreservesValidityRow.laid ((w0 os).forCall (fun _ _ => 0) ⟨#[], #[.agg #[.slice none 0 0], .agg #[.int .i64 0, .int .i64 0, .string ⟨#[]⟩, .string ⟨#[]⟩, .int .i64 0, .int .i64 0, .slice none 0 0, .slice none 0 0, .string ⟨#[]⟩, .string ⟨#[]⟩]], []⟩).memory := by
  rw [MakeChecks.laidMetH_plain _ _ _ (by kernel_rfl)]; exact laidMet_laidAll _ (by kernel_rfl) (by kernel_rfl)
theorem reads (os : Os) {H : Type} (enc : TypeId × Value → H) : ∃ places, DataW.whole enc Tryz.prog ((w0 os).forCall (fun _ _ => 0) ⟨#[], #[.agg #[.slice none 0 0], .agg #[.int .i64 0, .int .i64 0, .string ⟨#[]⟩, .string ⟨#[]⟩, .int .i64 0, .int .i64 0, .slice none 0 0, .slice none 0 0, .string ⟨#[]⟩, .string ⟨#[]⟩]], []⟩).memory Tryz.f3.params.toList Rows.memfsApplyPreservesValiditySpec.vars false (#[.agg #[.slice none 0 0], .agg #[.int .i64 0, .int .i64 0, .string ⟨#[]⟩, .string ⟨#[]⟩, .int .i64 0, .int .i64 0, .slice none 0 0, .slice none 0 0, .string ⟨#[]⟩, .string ⟨#[]⟩]] : Array Value).toList 8 = some ([.agg [.nil], .agg [.lit (.int .i64 0), .lit (.int .i64 0), .lit (.string []), .lit (.string []), .lit (.int .i64 0), .lit (.int .i64 0), .nil, .nil, .agg [.lit (.string []), .lit (.string [])]]], [], places) :=
  ⟨[], by kernel_rfl⟩
theorem okin (os : Os) : Input.okWideB Tryz.prog ((w0 os).forCall (fun _ _ => 0) ⟨#[], #[.agg #[.slice none 0 0], .agg #[.int .i64 0, .int .i64 0, .string ⟨#[]⟩, .string ⟨#[]⟩, .int .i64 0, .int .i64 0, .slice none 0 0, .slice none 0 0, .string ⟨#[]⟩, .string ⟨#[]⟩]], []⟩) 3 ⟨#[], #[.agg #[.slice none 0 0], .agg #[.int .i64 0, .int .i64 0, .string ⟨#[]⟩, .string ⟨#[]⟩, .int .i64 0, .int .i64 0, .slice none 0 0, .slice none 0 0, .string ⟨#[]⟩, .string ⟨#[]⟩]], []⟩ = true := by kernel_rfl

set_option maxRecDepth 100000 in
theorem lifted (os : Os) (started : os.Started) (H : Type) (enc : TypeId × Value → H) (F : Stop.Interp) :
    ReturnsInHanded {} Tryz.checked os 3 .any ((OpenSpec.ofChange Rows.memfsApplyPreservesValiditySpec).preRow enc Tryz.prog Tryz.f3 Rows.memfsApplyPreservesValidityRow.domain false Rows.memfsApplyPreservesValidityRow.laid) (((OpenSpec.ofChange Rows.memfsApplyPreservesValiditySpec).at F).post enc Tryz.prog Tryz.f3 false true false false) := by
  obtain ⟨places, hx⟩ := reads os enc
  refine returnsInHanded_of_row (C := Tryz.checked) (s := OpenSpec.ofChange Rows.memfsApplyPreservesValiditySpec) own started (by kernel_rfl) Tryz.func3
    ⟨w0 os, fun _ _ => 0, ⟨#[], #[.agg #[.slice none 0 0], .agg #[.int .i64 0, .int .i64 0, .string ⟨#[]⟩, .string ⟨#[]⟩, .int .i64 0, .int .i64 0, .slice none 0 0, .slice none 0 0, .string ⟨#[]⟩, .string ⟨#[]⟩]], []⟩, World.laidAll_os _ _ _, World.shaped_of_ZipB (by kernel_rfl) (by kernel_rfl),
      (Input.okWide_of_okWideB (base := 0) (okin os)).1, (Input.okWide_of_okWideB (okin os)).2,
      OpenSpec.preRow_of_cond 8 hx (by kernel_rfl) (fun k hk => by cases hk) (by kernel_rfl) (laid_met os), by
        simp only [Assume.holds]
        exact ⟨by simp, by simp, by simp, by simp, by simp⟩⟩ ?_
  intro W base args ds gs before hval0 hW _ _ hsz0 _ hsh _
  have hsz : (DataW.weightsEach Tryz.prog (Tryz.f3.params.toList ++ (OpenSpec.ofChange Rows.memfsApplyPreservesValiditySpec).bare.plain.varTypes Tryz.prog) (ds ++ gs)).all (· ≤ reachBytes) = true := hsz0
  clear hsz0
  have hval : ∀ (j : Nat) t v, Tryz.f3.params[j]? = some t → args[j]? = some v → Value.okWide Tryz.prog W .any base t v := hval0
  have gm := gm_of hsh
  have hW' := hW
  obtain ⟨p, q, hA0, hV, rfl, _, _⟩ := hW
  have hA : DataW.TrodAll enc Tryz.prog W 0 (fun _ => true) true Tryz.f3.params.toList args.toList ds p := hA0
  rw [Tryz.params3] at hA hval hsz
  clear hA0 hval0
  obtain ⟨v0, t0, d0, e0, p0, q0, ar0, rfl, rfl, h0, r0⟩ := trodAll_cons hA
  obtain ⟨v1, t1, d1, e1, p1, q1, ar1, rfl, rfl, h1, r1⟩ := trodAll_cons r0
  obtain ⟨rfl, rfl, rfl⟩ := trodAll_nil r1
  subst ar1
  obtain rfl : args = #[v0, v1] := by cases args; simp_all
  clear ar0
  obtain ⟨rfl, rfl⟩ := trodVars_none hV
  obtain ⟨w0, rfl, _⟩ := okWide_struct tree_under (hval 0 24 v0 rfl rfl)
  have k0 := h0
  obtain ⟨fuel0, f0⟩ := h0
  have hw0 : Held Tryz.prog 24 d0 := fun n hn => by
    have := List.all_eq_true.1 hsz _ (DataW.weights_mem_each (j := 0) (t := 24) rfl rfl n hn)
    simpa using this
  obtain ⟨a0, c0, u0, hxz0, hS0⟩ := ftree_of f0 hw0
  obtain rfl : w0 = #[.slice a0 u0.length c0] := by cases w0; simp [Value.cells] at hxz0; simp [hxz0]
  clear hxz0
  obtain ⟨w1, rfl, _⟩ := okWide_struct rq_under (hval 1 30 v1 rfl rfl)
  have k1 := h1
  obtain ⟨fuel1, f1⟩ := h1
  have hw1 : Held Tryz.prog 30 d1 := fun n hn => by
    have := List.all_eq_true.1 hsz _ (DataW.weights_mem_each (j := 1) (t := 30) rfl rfl n hn)
    simpa using this
  obtain ⟨vd1, va1, u1, hxz1, hS1⟩ := rq_of f1 hw1
  obtain rfl : w1 = #[.int .i64 u1.k, .int .i64 u1.u, .string u1.p, .string u1.t, .int .i64 u1.off, .int .i64 u1.sz, vd1, va1, .string u1.a.n, .string u1.a.v] := by cases w1; simp [Value.cells] at hxz1; simp [hxz1]
  clear hxz1
  try simp only [List.append_nil] at hW'
  have hlt : ∀ x ∈ p0 ++ (p1 ++ ([])), x.block < W.heap.size := fun x hx => hW'.lt x (by first | exact hx | simpa using hx)
  refine (lawPres_any a0 c0 u0 u1 vd1 va1 W gm hS0 hS1).mono fun e W' ⟨he, hnx⟩ => ?_
  subst he
  exact ⟨_, rfl, _, _, _, [] ++ [], p0 ++ (p1 ++ ([])), [], hW', trodAll_mk1 (shut_bool Tryz.underlying4 true), trodAll_cons_mk (Below.trod laidOut (by kernel_rfl) (of_decide_eq_true (by kernel_rfl)) k0 hnx (fun x hx => hlt x (by simp [hx]))) (trodAll_cons_mk (Below.trod laidOut (by kernel_rfl) (of_decide_eq_true (by kernel_rfl)) k1 hnx (fun x hx => hlt x (by simp [hx]))) (trodAll_mk0)), rfl, hnx.frame _, fun h => by cases h⟩

theorem said : Rows.MemfsApplyPreservesValiditySaid :=
  OpenClaim.holds_of_cond 3 Tryz.f3 rfl rfl rfl rfl rfl rfl rfl ⟨rfl, rfl, rfl, rfl, rfl⟩ rfl rfl rfl rfl rfl (by kernel_rfl) Tryz.func3 (by kernel_rfl)
    (of_decide_eq_true (by kernel_rfl)) (by unfold Func.isWrapper; first | (rw [if_pos (by decide +kernel)]; kernel_rfl) | (rw [if_neg (by decide +kernel)]; exact ⟨rfl, rfl⟩))
    (fun os started H enc _ F => by rw [OpenClaim.pre_eq_preRow]; exact lifted os started H enc F)

theorem plain (f : FuncId) (fn : Func) (hf : Tryz.pinned.checked.prog.funcNamed "farshelf/farshelflaw3.MemfsApplyPreservesValidity" = some f) (hfn : Tryz.pinned.checked.prog.funcs[f]? = some fn) :
    false = Tryz.pinned.checked.prog.looks [] ∧ ∀ (j : Nat) t, fn.params[j]? = some t → Tryz.pinned.checked.prog.wantsStandIn t = false := by
  obtain rfl : f = 3 := Option.some.inj ((show Tryz.prog.funcNamed "farshelf/farshelflaw3.MemfsApplyPreservesValidity" = some 3 by kernel_rfl).symm.trans hf) |>.symm
  obtain rfl : fn = Tryz.f3 := (Option.some.inj (Tryz.func3.symm.trans hfn)).symm
  refine ⟨by kernel_rfl, fun j t ht => ?_⟩
  rw [Tryz.params3] at ht
  have hm := Array.mem_of_getElem? ht
  obtain h | h : t = 24 ∨ t = 30 := by simpa using hm
  · rw [h]; exact (show Tryz.prog.wantsStandIn 24 = false by kernel_rfl)
  · rw [h]; exact (show Tryz.prog.wantsStandIn 30 = false by kernel_rfl)

theorem card : Rows.MemfsApplyPreservesValidityCardSaid :=
  Claim7.holds_tied_plain_at .later [] _ _ _ _ said (fun _ h => by cases h) (by kernel_rfl) (fun _ h => by cases h) memfsApplyPreservesValidity_row_tie rfl ⟨rfl, rfl⟩ (by kernel_rfl) rfl plain (by kernel_rfl)
end Go.Proofs.YtacabfhkinfpbaaGreatDoor.rowMemfsApplyPreservesValidity
