/- The law MemfsSuperuser.
   Condition: as each theorem states; this text: MfLawSuper. -/
import Derived.Test.YtmgamdjinhlgoaaGreatDoorMb34
import Derived.Test.YtmgamdjinhlgoaaGreatDoorMbSupP

set_option linter.all false

/- The law MemfsSuperuser returns true at every tree and request. Conditions: the tree and the request lie in memory as they read; the door's variable lies in memory. -/
namespace Go.Proofs.YtmgamdjinhlgoaaGreatDoor
open Go.RowKit

set_option maxHeartbeats 1600000 in
theorem isEmpty0_any (w : World) :
    Calls Tryz.prog 10 #[.agg #[.int .i64 0, .slice none 0 0, .slice none 0 0, .int .i64 0, .int .i64 0, .int .i64 0, .int .i64 0, .int .i64 0, .int .i64 0]] w fun e w' => e = .returned (.bool true) ∧ Below w.heap.size w w' := by
  have C := Lib.hid (fun W => repliesSame_any Rp0 (.slice none 0 0) (.slice none 0 0) (.slice none 0 0) (.slice none 0 0) W W.heap.size W.heap.size (Nat.le_refl _) (Nat.le_refl _) (Byts.none_ _ _) (Byts.none_ _ _) (Strs.none_ _ _) (Strs.none_ _ _))
  unfold rpV at C
  simp only at C
  go_enter Tryz.func10, Tryz.ntmps10
  go_wp2_with fail
  refine (C.out _).mono ?_
  rintro e z ⟨rfl, hz⟩
  go_wp2
  go_ret
  exact ⟨rfl, ((Below.refl _ _).alloc (Nat.le_refl _) _).trans (hz.mono (by simp))⟩

theorem rqC_sup {r : Rq} (h : rqC r = 0) : rqC r.sup = 0 := by
  have G := rqG_of h
  have hb : blankB (wo r.sup) = true := by
    have h1 := G.b
    unfold wo at h1 ⊢
    have ek : r.sup.k = r.k := rfl
    rw [ek]
    by_cases k3 : r.k = 3
    · rw [if_pos k3] at h1 ⊢; exact h1
    rw [if_neg k3] at h1 ⊢
    by_cases k4 : r.k = 4
    · rw [if_pos k4] at h1 ⊢; exact h1
    rw [if_neg k4] at h1 ⊢
    by_cases k5 : r.k = 5 ∨ r.k = 13 ∨ r.k = 14
    · rw [if_pos k5] at h1 ⊢; exact h1
    rw [if_neg k5] at h1 ⊢
    by_cases k9 : r.k = 9 ∨ r.k = 10
    · rw [if_pos k9] at h1 ⊢; exact h1
    rw [if_neg k9] at h1 ⊢
    by_cases k11 : r.k = 11
    · rw [if_pos k11] at h1 ⊢; exact h1
    rw [if_neg k11] at h1 ⊢
    by_cases k12 : r.k = 12
    · rw [if_pos k12] at h1 ⊢; exact h1
    rw [if_neg k12] at h1 ⊢
    by_cases k1 : 1 ≤ r.k ∧ r.k ≤ 14
    · rw [if_pos k1] at h1 ⊢; exact h1
    rw [if_neg k1] at h1 ⊢; exact h1
  unfold rqC at h ⊢
  have ek : r.sup.k = r.k := rfl
  have eu : usrB r.sup.u = true := rfl
  rw [ek, eu, hb]
  rw [if_neg (by rw [G.k]; decide), if_neg (by rw [G.u]; decide), if_neg (by rw [G.b]; decide)] at h
  rw [if_neg (by rw [G.k]; decide), if_neg (by decide), if_neg (by decide)]
  exact h
theorem RqS.sup {w : World} {B : Nat} {vd va : Value} {r : Rq} (h : RqS w B vd va r) : RqS w B vd va r.sup := ⟨h.d, h.ac, h.k, (by show i64 (0 : Int); unfold i64; decide), h.off, h.sz, h.p, h.t, h.a⟩

set_option maxRecDepth 100000 in
set_option maxHeartbeats 6400000 in
theorem lawSuperBad_any (a : Option Addr) (c : Nat) (t : FT) (r : Rq) (vd va : Value) (w : World) (gm : GM w) (h : FNods w w.heap.size a c t) (hr : RqS w w.heap.size vd va r) (hbad : ¬ ((valT (tr t)).1 = 0 ∧ rqC r = 0)) :
    Calls Tryz.prog 4 #[.agg #[.slice a t.length c], rqV r vd va] w fun e w' => e = .returned (.bool true) ∧ Below w.heap.size w w' := by
  obtain ⟨qa, qc, rfl, hqd⟩ := id hr.d
  obtain ⟨pa, pc, rfl, hpd⟩ := id hr.ac
  clear hqd hpd
  have T := Lib.hid (two_new w [.slice a t.length c] (rqL r (.slice qa r.d.length qc) (.slice pa r.ac.length pc)) 25 44)
  unfold rqL at T
  have CE := Lib.hid (fun W (hb : Below w.heap.size w W) => example_any W (gm.below hb))
  have CA := Lib.hid (fun W (hb : Below w.heap.size w W) => (applyFault_any a c t r (.slice qa r.d.length qc) (.slice pa r.ac.length pc) W (gm.below hb) (h.up hb) (hr.up hb) hbad).2)
  have hne := (applyFault_any a c t r (.slice qa r.d.length qc) (.slice pa r.ac.length pc) w gm h hr hbad).1
  clear gm h hr hbad
  unfold rpV at CA
  generalize (fltF t r).1 = fc at *
  generalize (fltF t r).2 = fi at *
  have hcc : (fc != 0) = true := by simpa using hne
  have hcd : (fc == 0) = false := by simpa using hne
  clear hne
  unfold rqV at *
  go_enter Tryz.func4, Tryz.ntmps4
  go_upto_region 1 with fail
  generalize (w.alloc (.cells #[.slice a t.length c] 25)).alloc (.cells #[.int .i64 r.k, .int .i64 r.u, .string r.p, .string r.t, .int .i64 r.off, .int .i64 r.sz, .slice qa r.d.length qc, .slice pa r.ac.length pc, .string r.a.n, .string r.a.v] 44) = w2 at *
  generalize hN : w.heap.size + 1 = N at *
  obtain ⟨tb, tt, tr'⟩ := T.out
  have B2 := Lib.hid tb
  have KT := Lib.hid tt
  have KR := Lib.hid tr'
  clear tb tt tr' T
  have u0 := KR.out.c 0 _ rfl
  have u1 := KR.out.c 1 _ rfl
  have u2 := KR.out.c 2 _ rfl
  have u3 := KR.out.c 3 _ rfl
  have u4 := KR.out.c 4 _ rfl
  have u5 := KR.out.c 5 _ rfl
  have u6 := KR.out.c 6 _ rfl
  have u7 := KR.out.c 7 _ rfl
  have u8 := KR.out.c 8 _ rfl
  have u9 := KR.out.c 9 _ rfl
  have k0 := KT.out.c 0 _ rfl
  have kl := KT.out.lt
  have ul := KR.out.lt
  clear hN
  go_wp2_with fail
  refine (CA.out _ B2.out).mono ?_
  rintro e z ⟨hbz, rfl⟩
  have BZ := Lib.hid (B2.out.trans (hbz.mono B2.out.size))
  clear hbz k0 u0 u1 u2 u3 u4 u5 u6 u7 u8 u9 kl ul KT KR
  have TN := Lib.hid (three_new z [.slice none 0 0] [.int .i64 0, .slice none 0 0, .slice none 0 0, .int .i64 0, .int .i64 0, .int .i64 0, .int .i64 0, .int .i64 0, .int .i64 0] [.int .i64 fc, .int .i64 fi] 25 37 28)
  go_upto_region 2 with fail
  have B5 := Lib.hid (BZ.out.trans (TN.out.1.mono BZ.out.size))
  generalize ((z.alloc (.cells #[.slice none 0 0] 25)).alloc (.cells #[.int .i64 0, .slice none 0 0, .slice none 0 0, .int .i64 0, .int .i64 0, .int .i64 0, .int .i64 0, .int .i64 0, .int .i64 0] 37)).alloc (.cells #[.int .i64 fc, .int .i64 fi] 28) = w5 at *
  generalize z.heap.size + 1 + 1 = n3 at *
  generalize z.heap.size + 1 = n2 at *
  generalize z.heap.size = n1 at *
  go_wp2_with fail
  refine (CE.out _ B5.out).mono ?_
  rintro e w6 ⟨rfl, b6⟩
  have B6 := Lib.hid (B5.out.trans (b6.mono B5.out.size))
  obtain ⟨_, TU, TP, TF⟩ := TN.out
  have K2 := TP.up b6
  have K3 := TF.up b6
  have p0 := K2.c 0 _ rfl
  have p1 := K2.c 1 _ rfl
  have p2 := K2.c 2 _ rfl
  have p3 := K2.c 3 _ rfl
  have p4 := K2.c 4 _ rfl
  have p5 := K2.c 5 _ rfl
  have p6 := K2.c 6 _ rfl
  have p7 := K2.c 7 _ rfl
  have p8 := K2.c 8 _ rfl
  have pl := K2.lt
  have f0 := K3.c 0 _ rfl
  have fl := K3.lt
  clear b6 TU TP TF K2 K3 TN
  go_wp2_with fail
  refine (isEmpty0_any _).mono ?_
  rintro e w7 ⟨rfl, b7⟩
  go_wp2
  go_ret
  exact ⟨rfl, B6.out.trans (b7.mono B6.out.size)⟩

/-- What holds while the inodes are compared. -/
structure SVI (w wr : World) (N n1 n2 m1 g cap g2 cap2 b1 b2 : Nat) (sl sl2 : Nat → Sl) (t' t2 : FT) (rl pl : List Value) : Prop where
  b : Below w.heap.size w wr
  kr : Blk wr N rl
  k1 : Blk wr n1 [.slice (some ⟨g, 0, none⟩) t'.length cap]
  k2 : Blk wr n2 pl
  k4 : Blk wr m1 [.slice (some ⟨g2, 0, none⟩) t2.length cap2]
  o1 : OT wr b1 g cap sl t'
  o2 : OT wr b2 g2 cap2 sl2 t2
theorem SVI.step {w wr z : World} {N n1 n2 m1 g cap g2 cap2 b1 b2 : Nat} {sl sl2 : Nat → Sl} {t' t2 : FT} {rl pl : List Value} (h : SVI w wr N n1 n2 m1 g cap g2 cap2 b1 b2 sl sl2 t' t2 rl pl) (hb : Below wr.heap.size wr z) : SVI w z N n1 n2 m1 g cap g2 cap2 b1 b2 sl sl2 t' t2 rl pl :=
  ⟨h.b.trans (hb.mono h.b.size), h.kr.up hb, h.k1.up hb, h.k2.up hb, h.k4.up hb, h.o1.up hb, h.o2.up hb⟩

set_option maxRecDepth 100000 in
set_option maxHeartbeats 6400000 in
theorem lawSuperOk_any (a : Option Addr) (c : Nat) (t : FT) (r : Rq) (vd va : Value) (w : World) (gm : GM w) (h : FNods w w.heap.size a c t) (hr : RqS w w.heap.size vd va r) (hv : (valT (tr t)).1 = 0) (hq : rqC r = 0) :
    Calls Tryz.prog 4 #[.agg #[.slice a t.length c], rqV r vd va] w fun e w' => e = .returned (.bool true) ∧ Below w.heap.size w w' := by
  obtain ⟨qa, qc, rfl, hqd⟩ := id hr.d
  obtain ⟨pa, pc, rfl, hpd⟩ := id hr.ac
  clear hqd hpd
  have T := Lib.hid (two_new w [.slice a t.length c] (rqL r (.slice qa r.d.length qc) (.slice pa r.ac.length pc)) 25 44)
  unfold rqL at T
  have CE := Lib.hid (fun W (hb : Below w.heap.size w W) => example_any W (gm.below hb))
  have CA := Lib.hid (fun W (hb : Below w.heap.size w W) => applyOk_any a c t r (.slice qa r.d.length qc) (.slice pa r.ac.length pc) W (gm.below hb) (h.up hb) (hr.up hb) hv hq)
  have CA2 := Lib.hid (fun W (hb : Below w.heap.size w W) => applyOk_any a c t r.sup (.slice qa r.d.length qc) (.slice pa r.ac.length pc) W (gm.below hb) (h.up hb) (hr.up hb).sup hv (rqC_sup hq))
  have HS := Lib.hid (fun hc => apply_sup (t := t) (r := r) hc)
  have HU := hr.u
  have hsupV : rqV r.sup (.slice qa r.d.length qc) (.slice pa r.ac.length pc) = .agg #[.int .i64 r.k, .int .i64 0, .string r.p, .string r.t, .int .i64 r.off, .int .i64 r.sz, .slice qa r.d.length qc, .slice pa r.ac.length pc, .string r.a.n, .string r.a.v] := rfl
  rw [hsupV] at CA2
  unfold rpV at CA CA2
  clear gm h hr hv hq hsupV
  generalize applyF t r = AF at *
  generalize applyF t r.sup = AG at *
  obtain ⟨t', p⟩ := AF
  obtain ⟨t2, p2⟩ := AG
  simp only at CA CA2 HS
  unfold rqV at *
  go_enter Tryz.func4, Tryz.ntmps4
  go_upto_region 1 with fail
  generalize (w.alloc (.cells #[.slice a t.length c] 25)).alloc (.cells #[.int .i64 r.k, .int .i64 r.u, .string r.p, .string r.t, .int .i64 r.off, .int .i64 r.sz, .slice qa r.d.length qc, .slice pa r.ac.length pc, .string r.a.n, .string r.a.v] 44) = w2 at *
  generalize hN : w.heap.size + 1 = N at *
  obtain ⟨tb, tt, tr'⟩ := T.out
  have B2 := Lib.hid tb
  have KT := Lib.hid tt
  have KR := Lib.hid tr'
  clear tb tt tr' T
  have u0 := KR.out.c 0 _ rfl
  have u1 := KR.out.c 1 _ rfl
  have u2 := KR.out.c 2 _ rfl
  have u3 := KR.out.c 3 _ rfl
  have u4 := KR.out.c 4 _ rfl
  have u5 := KR.out.c 5 _ rfl
  have u6 := KR.out.c 6 _ rfl
  have u7 := KR.out.c 7 _ rfl
  have u8 := KR.out.c 8 _ rfl
  have u9 := KR.out.c 9 _ rfl
  have k0 := KT.out.c 0 _ rfl
  have kl := KT.out.lt
  have ul := KR.out.lt
  have hNw : w.heap.size < N := by omega
  clear hN
  go_wp2_with fail
  refine (CA.out _ B2.out).mono ?_
  rintro e z ⟨hbz, g, cap, sl, vd', vn', rfl, ho, hs⟩
  obtain ⟨da, dc, rfl, hda⟩ := id hs.d
  obtain ⟨na, nc, rfl, hna⟩ := id hs.ns
  have BZ := Lib.hid (B2.out.trans (hbz.mono B2.out.size))
  have KTZ := Lib.hid (KT.out.up hbz)
  have KRZ := Lib.hid (KR.out.up hbz)
  have OZ := Lib.hid ho
  have hN2 : N < w2.heap.size := ul
  clear hda hna hbz ho hs k0 u0 u1 u2 u3 u4 u5 u6 u7 u8 u9 kl ul KT KR CA
  have TN := Lib.hid (three_new z [.slice (some ⟨g, 0, none⟩) t'.length cap] [.int .i64 p.c, .slice da p.d.length dc, .slice na p.ns.length nc, .int .i64 p.s.i, .int .i64 p.s.k, .int .i64 p.s.o, .int .i64 p.s.z, .int .i64 p.s.l, .int .i64 p.s.v] [.int .i64 0, .int .i64 0] 25 37 28)
  go_upto_region 2 with fail
  have B5 := Lib.hid (BZ.out.trans (TN.out.1.mono BZ.out.size))
  generalize ((z.alloc (.cells #[.slice (some ⟨g, 0, none⟩) t'.length cap] 25)).alloc (.cells #[.int .i64 p.c, .slice da p.d.length dc, .slice na p.ns.length nc, .int .i64 p.s.i, .int .i64 p.s.k, .int .i64 p.s.o, .int .i64 p.s.z, .int .i64 p.s.l, .int .i64 p.s.v] 37)).alloc (.cells #[.int .i64 0, .int .i64 0] 28) = w5 at *
  have hNz : N < z.heap.size := KRZ.out.lt
  generalize hn3 : z.heap.size + 1 + 1 = n3 at *
  generalize hn2 : z.heap.size + 1 = n2 at *
  generalize hn1 : z.heap.size = n1 at *
  have d1 : n1 ≠ N := by omega
  have d2 : n2 ≠ N := by omega
  clear hn2 hn3
  go_wp2_with fail
  refine (CE.out _ B5.out).mono ?_
  rintro e w6 ⟨rfl, b6⟩
  have B6 := Lib.hid (B5.out.trans (b6.mono B5.out.size))
  obtain ⟨b5, TU, TP, TF⟩ := TN.out
  rw [← hn1] at b5
  have bz6 : Below z.heap.size z w6 := b5.trans (b6.mono b5.size)
  have K3 := Lib.hid (TF.up b6)
  have O6 := Lib.hid (OZ.out.up bz6)
  have K1 := Lib.hid (TU.up b6)
  have K2 := Lib.hid (TP.up b6)
  have KT6 := Lib.hid (KTZ.out.up bz6)
  have KR6 := Lib.hid (KRZ.out.up bz6)
  clear hn1 hNz b6 b5 bz6 TU TP TF TN OZ KTZ KRZ CE B5
  have f0 := K3.out.c 0 _ rfl
  have fl := K3.out.lt
  have p0 := K2.out.c 0 _ rfl
  have pl := K2.out.lt
  by_cases hpc : p.c = 0
  · obtain ⟨hc2, hlen, hpt, hsi⟩ := HS.out hpc
    rw [hpc] at p0
    have PT := Lib.hid hpt
    have SI2 := Lib.hid hsi
    have r1 := KR6.out.c 1 _ rfl
    have rfz := KR6.out.f 1 (by simp)
    have rl := KR6.out.lt
    have HC2 := Lib.hid hc2
    have HLEN := Lib.hid hlen
    clear HS hpt hsi hc2 hlen hpc
    go_upto_region 8 with fail
    have KR7 := Lib.hid (show Blk (w6.setCell ⟨N, 1, none⟩ (.int .i64 0)) N [.int .i64 r.k, .int .i64 0, .string r.p, .string r.t, .int .i64 r.off, .int .i64 r.sz, .slice qa r.d.length qc, .slice pa r.ac.length pc, .string r.a.n, .string r.a.v] from KR6.out.put 1 (.int .i64 0) (by simp))
    have K17 := Lib.hid (K1.out.far (p := ⟨N, 1, none⟩) d1 (.int .i64 0))
    have K27 := Lib.hid (K2.out.far (p := ⟨N, 1, none⟩) d2 (.int .i64 0))
    have KT7 := Lib.hid (KT6.out.far (p := ⟨N, 1, none⟩) (by simp; omega) (.int .i64 0))
    have O7 := Lib.hid (O6.out.low (p := ⟨N, 1, none⟩) hN2 (.int .i64 0))
    have B7 := Lib.hid (B6.out.setCell (p := ⟨N, 1, none⟩) (by simp; omega) (.int .i64 0))
    clear r1 rfz rl f0 fl p0 pl K1 K2 K3 KT6 KR6 O6 B6
    generalize w6.setCell ⟨N, 1, none⟩ (.int .i64 0) = w7 at *
    have u0 := KR7.out.c 0 _ rfl
    have u1 := KR7.out.c 1 _ rfl
    have u2 := KR7.out.c 2 _ rfl
    have u3 := KR7.out.c 3 _ rfl
    have u4 := KR7.out.c 4 _ rfl
    have u5 := KR7.out.c 5 _ rfl
    have u6 := KR7.out.c 6 _ rfl
    have u7 := KR7.out.c 7 _ rfl
    have u8 := KR7.out.c 8 _ rfl
    have u9 := KR7.out.c 9 _ rfl
    have k0 := KT7.out.c 0 _ rfl
    have kl := KT7.out.lt
    have ul := KR7.out.lt
    go_wp2_with fail
    refine (CA2.out _ B7.out).mono ?_
    rintro e z2 ⟨hbz2, g2, cap2, sl2, vd2, vn2, rfl, ho2, hs2⟩
    obtain ⟨ea, ec, rfl, _⟩ := id hs2.d
    obtain ⟨ma, mc, rfl, _⟩ := id hs2.ns
    have B8 := Lib.hid (B7.out.trans (hbz2.mono B7.out.size))
    have KR8 := Lib.hid (KR7.out.up hbz2)
    have K18 := Lib.hid (K17.out.up hbz2)
    have K28 := Lib.hid (K27.out.up hbz2)
    have O8 := Lib.hid (O7.out.up hbz2)
    have O28 := Lib.hid ho2
    clear hbz2 ho2 hs2 u0 u1 u2 u3 u4 u5 u6 u7 u8 u9 k0 kl ul KR7 K17 K27 KT7 O7 B7 CA2
    have TN2 := Lib.hid (three_new z2 [.slice (some ⟨g2, 0, none⟩) t2.length cap2] [.int .i64 p2.c, .slice ea p2.d.length ec, .slice ma p2.ns.length mc, .int .i64 p2.s.i, .int .i64 p2.s.k, .int .i64 p2.s.o, .int .i64 p2.s.z, .int .i64 p2.s.l, .int .i64 p2.s.v] [.int .i64 0, .int .i64 0] 25 37 28)
    go_upto_region 9 with fail
    have B9 := Lib.hid (B8.out.trans (TN2.out.1.mono B8.out.size))
    have S9 := Lib.hid (show SVI w _ N n1 n2 z2.heap.size g cap g2 cap2 _ _ sl sl2 t' t2 [.int .i64 r.k, .int .i64 0, .string r.p, .string r.t, .int .i64 r.off, .int .i64 r.sz, .slice qa r.d.length qc, .slice pa r.ac.length pc, .string r.a.n, .string r.a.v] [.int .i64 p.c, .slice da p.d.length dc, .slice na p.ns.length nc, .int .i64 p.s.i, .int .i64 p.s.k, .int .i64 p.s.o, .int .i64 p.s.z, .int .i64 p.s.l, .int .i64 p.s.v] from ⟨B9.out, KR8.out.up TN2.out.1, K18.out.up TN2.out.1, K28.out.up TN2.out.1, TN2.out.2.1, O8.out.up TN2.out.1, O28.out.up TN2.out.1⟩)
    have q2 := TN2.out.2.2.1.c 0 _ rfl
    have q3 := TN2.out.2.2.2.c 0 _ rfl
    have q2l := TN2.out.2.2.1.lt
    have q3l := TN2.out.2.2.2.lt
    clear TN2 B8 KR8 K18 K28 O8 O28
    generalize ((z2.alloc (.cells #[.slice (some ⟨g2, 0, none⟩) t2.length cap2] 25)).alloc (.cells #[.int .i64 p2.c, .slice ea p2.d.length ec, .slice ma p2.ns.length mc, .int .i64 p2.s.i, .int .i64 p2.s.k, .int .i64 p2.s.o, .int .i64 p2.s.z, .int .i64 p2.s.l, .int .i64 p2.s.v] 37)).alloc (.cells #[.int .i64 0, .int .i64 0] 28) = w9 at *
    generalize z2.heap.size + 1 + 1 = m3 at *
    generalize z2.heap.size + 1 = m2 at *
    generalize z2.heap.size = m1 at *
    rw [HC2.out] at q2
    have hlz : ((t'.length : Int) != (t2.length : Int)) = false := by rw [HLEN.out]; simp
    have k1c := S9.out.k1.c 0 _ rfl
    have k1l := S9.out.k1.lt
    have k4c := S9.out.k4.c 0 _ rfl
    have k4l := S9.out.k4.lt
    go_wp2_with fail
    clear hlz k1c k1l k4c k4l q2 q3 q2l q3l B9
    go_loopg [12, 13] t'.length (fun gg s12 _ wr => ∃ i : Nat, i ≤ t'.length ∧ t'.length - i ≤ gg ∧ s12 = .int .i64 i ∧ Aside (SVI w wr N n1 n2 m1 g cap g2 cap2 w2.heap.size w7.heap.size sl sl2 t' t2 [.int .i64 r.k, .int .i64 0, .string r.p, .string r.t, .int .i64 r.off, .int .i64 r.sz, .slice qa r.d.length qc, .slice pa r.ac.length pc, .string r.a.n, .string r.a.v] [.int .i64 p.c, .slice da p.d.length dc, .slice na p.ns.length nc, .int .i64 p.s.i, .int .i64 p.s.k, .int .i64 p.s.o, .int .i64 p.s.z, .int .i64 p.s.l, .int .i64 p.s.v]))
    case atStart => exact ⟨0, by omega, by omega, rfl, S9.out⟩
    case round =>
      obtain ⟨i, hi, hg, rfl, S⟩ := hrel
      clear S9
      have h1000 : t'.length ≤ 1000 := S.out.o1.len
      have k1c := S.out.k1.c 0 _ rfl
      have k1l := S.out.k1.lt
      by_cases hlt : i < t'.length
      · have hltz : (i : Int) < (t'.length : Int) := by omega
        have hlt2 : i < t2.length := by have := HLEN.out; omega
        have hltz2 : (i : Int) < (t2.length : Int) := by omega
        have hi0 : (0 : Int) ≤ (i : Int) := Int.natCast_nonneg _
        have hm9 : t'.length - (i + 1) < t'.length - i := Nat.sub_lt_sub_left hlt (Nat.lt_succ_self i)
        have k4c := S.out.k4.c 0 _ rfl
        have k4l := S.out.k4.lt
        have hd := S.out.o2.nodc hlt2
        have hs1 : ∃ s, sl i = s := ⟨_, rfl⟩
        obtain ⟨⟨e1, d1', a1, x1'⟩, hs1⟩ := hs1
        have hs2 : ∃ s, sl2 i = s := ⟨_, rfl⟩
        obtain ⟨⟨e2, d2', a2, x2'⟩, hs2⟩ := hs2
        have N1 := Lib.hid ((S.out.o1.r i hlt).nodS (S.out.o1.fit i hlt))
        have Y1 := Lib.hid ((S.out.o1.r i hlt).byts (S.out.o1.fit i hlt))
        have N2 := Lib.hid ((S.out.o2.r i hlt2).nodS (S.out.o2.fit i hlt2))
        have Y2 := Lib.hid ((S.out.o2.r i hlt2).byts (S.out.o2.fit i hlt2))
        rw [hs2] at hd N2 Y2
        rw [hs1] at N1 Y1
        have HS1 := Lib.hid hs1
        clear hs1 hs2
        simp only at hd N2 Y2
        obtain ⟨ea2, ec2, rfl, _⟩ := id N2.out.es
        obtain ⟨da2, dc2, rfl, _⟩ := id N2.out.dl
        obtain ⟨aa2, ac2, rfl, _⟩ := id N2.out.ac
        obtain ⟨xa2, xc2, rfl, _⟩ := id N2.out.xs
        generalize (ino t2 i).nod.es.length = le2 at *
        generalize (ino t2 i).nod.dl = ld2 at *
        generalize (ino t2 i).nod.ac.length = la2 at *
        generalize (ino t2 i).nod.xs.length = lx2 at *
        have hg2 := S.out.o2.lt.2
        have hpi := PT.out i
        have HFR := Lib.hid (fun h => SI2.out h)
        obtain ⟨yk, hyk⟩ : ∃ yk, (ino t2 i).k = yk := ⟨_, rfl⟩
        have HYk := Lib.hid hyk
        clear hyk
        obtain ⟨yo, hyo⟩ : ∃ yo, (ino t2 i).o = yo := ⟨_, rfl⟩
        have HYo := Lib.hid hyo
        clear hyo
        obtain ⟨yq, hyq⟩ : ∃ yq, (ino t2 i).q = yq := ⟨_, rfl⟩
        have HYq := Lib.hid hyq
        clear hyq
        obtain ⟨yv, hyv⟩ : ∃ yv, (ino t2 i).v = yv := ⟨_, rfl⟩
        have HYv := Lib.hid hyv
        clear hyv
        have e0 := hd.c0
        have e1c := hd.c1
        have e2c := hd.c2
        have e3c := hd.c3
        have e4c := hd.c4
        have e5c := hd.c5
        have e6c := hd.c6
        have e7c := hd.c7
        change wr.cell? ⟨g2, i * 8, none⟩ = some (.int .i64 (ino t2 i).k) at e0
        change wr.cell? ⟨g2, i * 8 + 1, none⟩ = some (.int .i64 (ino t2 i).o) at e1c
        change wr.cell? ⟨g2, i * 8 + 6, none⟩ = some (.int .i64 (ino t2 i).q) at e6c
        change wr.cell? ⟨g2, i * 8 + 7, none⟩ = some (.int .i64 (ino t2 i).v) at e7c
        rw [HYk.out] at e0
        rw [HYo.out] at e1c
        rw [HYq.out] at e6c
        rw [HYv.out] at e7c
        clear hd
        go_upto_region 15 with fail
        have BX := Lib.hid (show Below wr.heap.size wr (wr.alloc (.cells #[.int .i64 yk, .int .i64 yo, (.slice ea2 le2 ec2), (.slice da2 ld2 dc2), (.slice aa2 la2 ac2), (.slice xa2 lx2 xc2), .int .i64 yq, .int .i64 yv] 52)) from (Below.refl _ _).alloc (Nat.le_refl _) _)
        have XB := Lib.hid (show Blk (wr.alloc (.cells #[.int .i64 yk, .int .i64 yo, (.slice ea2 le2 ec2), (.slice da2 ld2 dc2), (.slice aa2 la2 ac2), (.slice xa2 lx2 xc2), .int .i64 yq, .int .i64 yv] 52)) wr.heap.size [.int .i64 yk, .int .i64 yo, (.slice ea2 le2 ec2), (.slice da2 ld2 dc2), (.slice aa2 la2 ac2), (.slice xa2 lx2 xc2), .int .i64 yq, .int .i64 yv] from Blk.new wr [.int .i64 yk, .int .i64 yo, (.slice ea2 le2 ec2), (.slice da2 ld2 dc2), (.slice aa2 la2 ac2), (.slice xa2 lx2 xc2), .int .i64 yq, .int .i64 yv] 52)
        have hr0 := (S.out.kr.up BX.out).c 0 _ rfl
        have hrl := (S.out.kr.up BX.out).lt
        have hp3 := (S.out.k2.up BX.out).c 3 _ rfl
        have hpl := (S.out.k2.up BX.out).lt
        clear e0 e1c e2c e3c e4c e5c e6c e7c k4c k4l k1c k1l hg2
        have W8 := Lib.hid S.out.k4.lt
        generalize wr.alloc (.cells #[.int .i64 yk, .int .i64 yo, (.slice ea2 le2 ec2), (.slice da2 ld2 dc2), (.slice aa2 la2 ac2), (.slice xa2 lx2 xc2), .int .i64 yq, .int .i64 yv] 52) = wx at *
        by_cases hJ : newJ t r = some i
        · rw [if_pos hJ] at hpi
          have HX := Lib.hid (show ino t' i = ({ ino t2 i with o := r.u } : Ino) from hpi)
          have hkk : (r.k = 1 ∨ r.k = 2) ∧ freN t = i := by
            unfold newJ at hJ
            by_cases h : r.k = 1 ∨ r.k = 2
            · rw [if_pos h] at hJ; exact ⟨h, Option.some.inj hJ⟩
            · rw [if_neg h] at hJ; cases hJ
          have hp3i : p.s.i = (i : Int) := by rw [HFR.out hkk.1, hkk.2]
          rw [hp3i] at hp3
          have hfr := hkk.2
          clear hfr
          have CI := Lib.hid (fun W (hb : Below wr.heap.size wr W) => (show Calls Tryz.prog 11 #[.agg #[.int .i64 yk, .int .i64 r.u, e1, d1', a1, x1', .int .i64 yq, .int .i64 yv], .agg #[.int .i64 yk, .int .i64 r.u, (.slice ea2 le2 ec2), (.slice da2 ld2 dc2), (.slice aa2 la2 ac2), (.slice xa2 lx2 xc2), .int .i64 yq, .int .i64 yv]] W (fun e w' => e = .returned (.bool true) ∧ Below W.heap.size W w') from by
            have n1 : NodS W W.heap.size e1 d1' a1 x1' ({ ino t2 i with o := r.u } : Ino).nod := by rw [← HX.out]; exact N1.out.up hb
            have q := N2.out.up hb
            have n2 : NodS W W.heap.size (.slice ea2 le2 ec2) (.slice da2 ld2 dc2) (.slice aa2 la2 ac2) (.slice xa2 lx2 xc2) ({ ino t2 i with o := r.u } : Ino).nod := ⟨q.es, q.dl, q.dll, q.ac, q.xs, q.k, HU, q.q, q.v⟩
            have y1 : Byts W W.heap.size d1' ({ ino t2 i with o := r.u } : Ino).d := by rw [← HX.out]; exact Y1.out.up hb
            have y2 : Byts W W.heap.size (.slice da2 ld2 dc2) ({ ino t2 i with o := r.u } : Ino).d := Y2.out.up hb
            have h9 := inodesSame_any ({ ino t2 i with o := r.u } : Ino) ⟨e1, d1', a1, x1'⟩ ⟨(.slice ea2 le2 ec2), (.slice da2 ld2 dc2), (.slice aa2 la2 ac2), (.slice xa2 lx2 xc2)⟩ W n1 y1 n2 y2
            simp only at h9
            rw [HYk.out, HYq.out, HYv.out] at h9
            exact h9))
          clear HFR hpi hp3i N1 N2 Y1 Y2 hJ
          rcases hkk.1 with hk | hk
          · rw [hk] at hr0
            clear hk hkk
            have xz := XB.out.f 1 (by simp)
            have x1 := XB.out.c 1 _ rfl
            have xl := XB.out.lt
            have w8c := W8.out
            go_upto_region 18 with fail
            have BY := Lib.hid (show Below wr.heap.size wr (wx.setCell ⟨wr.heap.size, 1, none⟩ (.int .i64 r.u)) from BX.out.setCell (p := ⟨wr.heap.size, 1, none⟩) (Nat.le_refl _) _)
            have XY := Lib.hid (XB.out.put 1 (.int .i64 r.u) (by simp))
            clear xz x1 xl BX XB
            generalize wx.setCell ⟨wr.heap.size, 1, none⟩ (.int .i64 r.u) = wy at *
            have SY := Lib.hid (S.out.step BY.out)
            have k1c := SY.out.k1.c 0 _ rfl
            have k1l := SY.out.k1.lt
            have hgl := SY.out.o1.lt.2
            have xl := XY.out.lt
            have x0 := XY.out.c 0 _ rfl
            have x1 := XY.out.c 1 _ rfl
            have x2 := XY.out.c 2 _ rfl
            have x3 := XY.out.c 3 _ rfl
            have x4 := XY.out.c 4 _ rfl
            have x5 := XY.out.c 5 _ rfl
            have x6 := XY.out.c 6 _ rfl
            have x7 := XY.out.c 7 _ rfl
            have hnod := SY.out.o1.nodc hlt
            rw [HX.out, HS1.out] at hnod
            have c0 := hnod.c0
            have c1 := hnod.c1
            have c2 := hnod.c2
            have c3 := hnod.c3
            have c4 := hnod.c4
            have c5 := hnod.c5
            have c6 := hnod.c6
            have c7 := hnod.c7
            change wy.cell? ⟨g, i * 8, none⟩ = some (.int .i64 (ino t2 i).k) at c0
            change wy.cell? ⟨g, i * 8 + 1, none⟩ = some (.int .i64 r.u) at c1
            change wy.cell? ⟨g, i * 8 + 6, none⟩ = some (.int .i64 (ino t2 i).q) at c6
            change wy.cell? ⟨g, i * 8 + 7, none⟩ = some (.int .i64 (ino t2 i).v) at c7
            rw [HYk.out] at c0
            rw [HYq.out] at c6
            rw [HYv.out] at c7
            simp only at c2 c3 c4 c5
            clear hnod
            go_wp2_with fail
            go_region_with (go_at_call 11; refine (CI.out _ (BY.out.trans ((below_drewN (Below.refl _ _) _).mono BY.out.size))).mono ?_; rintro e zz ⟨rfl, hzz⟩)
            all_goals
              have hz3 : Below wy.heap.size wy zz := by first | exact hzz | exact ((Below.refl wy.heap.size wy).drew).trans hzz | exact (below_drewN (Below.refl wy.heap.size wy) _).trans hzz
              have SZ := Lib.hid (SY.out.step hz3)
              clear hzz hz3 c0 c1 c2 c3 c4 c5 c6 c7 x0 x1 x2 x3 x4 x5 x6 x7 k1c k1l xl
              go_wp2
              go_roundg (t'.length - (i + 1))
              case measure => exact Nat.lt_of_lt_of_le hm9 hg
              case rel => exact ⟨i + 1, by omega, by omega, by go_num, SZ.out⟩
          · rw [hk] at hr0
            clear hk hkk
            have xz := XB.out.f 1 (by simp)
            have x1 := XB.out.c 1 _ rfl
            have xl := XB.out.lt
            have w8c := W8.out
            go_upto_region 18 with fail
            have BY := Lib.hid (show Below wr.heap.size wr (wx.setCell ⟨wr.heap.size, 1, none⟩ (.int .i64 r.u)) from BX.out.setCell (p := ⟨wr.heap.size, 1, none⟩) (Nat.le_refl _) _)
            have XY := Lib.hid (XB.out.put 1 (.int .i64 r.u) (by simp))
            clear xz x1 xl BX XB
            generalize wx.setCell ⟨wr.heap.size, 1, none⟩ (.int .i64 r.u) = wy at *
            have SY := Lib.hid (S.out.step BY.out)
            have k1c := SY.out.k1.c 0 _ rfl
            have k1l := SY.out.k1.lt
            have hgl := SY.out.o1.lt.2
            have xl := XY.out.lt
            have x0 := XY.out.c 0 _ rfl
            have x1 := XY.out.c 1 _ rfl
            have x2 := XY.out.c 2 _ rfl
            have x3 := XY.out.c 3 _ rfl
            have x4 := XY.out.c 4 _ rfl
            have x5 := XY.out.c 5 _ rfl
            have x6 := XY.out.c 6 _ rfl
            have x7 := XY.out.c 7 _ rfl
            have hnod := SY.out.o1.nodc hlt
            rw [HX.out, HS1.out] at hnod
            have c0 := hnod.c0
            have c1 := hnod.c1
            have c2 := hnod.c2
            have c3 := hnod.c3
            have c4 := hnod.c4
            have c5 := hnod.c5
            have c6 := hnod.c6
            have c7 := hnod.c7
            change wy.cell? ⟨g, i * 8, none⟩ = some (.int .i64 (ino t2 i).k) at c0
            change wy.cell? ⟨g, i * 8 + 1, none⟩ = some (.int .i64 r.u) at c1
            change wy.cell? ⟨g, i * 8 + 6, none⟩ = some (.int .i64 (ino t2 i).q) at c6
            change wy.cell? ⟨g, i * 8 + 7, none⟩ = some (.int .i64 (ino t2 i).v) at c7
            rw [HYk.out] at c0
            rw [HYq.out] at c6
            rw [HYv.out] at c7
            simp only at c2 c3 c4 c5
            clear hnod
            go_wp2_with fail
            go_region_with (go_at_call 11; refine (CI.out _ (BY.out.trans ((below_drewN (Below.refl _ _) _).mono BY.out.size))).mono ?_; rintro e zz ⟨rfl, hzz⟩)
            all_goals
              have hz3 : Below wy.heap.size wy zz := by first | exact hzz | exact ((Below.refl wy.heap.size wy).drew).trans hzz | exact (below_drewN (Below.refl wy.heap.size wy) _).trans hzz
              have SZ := Lib.hid (SY.out.step hz3)
              clear hzz hz3 c0 c1 c2 c3 c4 c5 c6 c7 x0 x1 x2 x3 x4 x5 x6 x7 k1c k1l xl
              go_wp2
              go_roundg (t'.length - (i + 1))
              case measure => exact Nat.lt_of_lt_of_le hm9 hg
              case rel => exact ⟨i + 1, by omega, by omega, by go_num, SZ.out⟩
        · rw [if_neg hJ] at hpi
          have HX := Lib.hid (show ino t' i = ino t2 i from hpi)
          have CI := Lib.hid (fun W (hb : Below wr.heap.size wr W) => (show Calls Tryz.prog 11 #[.agg #[.int .i64 yk, .int .i64 yo, e1, d1', a1, x1', .int .i64 yq, .int .i64 yv], .agg #[.int .i64 yk, .int .i64 yo, (.slice ea2 le2 ec2), (.slice da2 ld2 dc2), (.slice aa2 la2 ac2), (.slice xa2 lx2 xc2), .int .i64 yq, .int .i64 yv]] W (fun e w' => e = .returned (.bool true) ∧ Below W.heap.size W w') from by
            have n1 : NodS W W.heap.size e1 d1' a1 x1' (ino t2 i).nod := by rw [← HX.out]; exact N1.out.up hb
            have q := N2.out.up hb
            have n2 : NodS W W.heap.size (.slice ea2 le2 ec2) (.slice da2 ld2 dc2) (.slice aa2 la2 ac2) (.slice xa2 lx2 xc2) (ino t2 i).nod := q
            have y1 : Byts W W.heap.size d1' (ino t2 i).d := by rw [← HX.out]; exact Y1.out.up hb
            have y2 : Byts W W.heap.size (.slice da2 ld2 dc2) (ino t2 i).d := Y2.out.up hb
            have h9 := inodesSame_any (ino t2 i) ⟨e1, d1', a1, x1'⟩ ⟨(.slice ea2 le2 ec2), (.slice da2 ld2 dc2), (.slice aa2 la2 ac2), (.slice xa2 lx2 xc2)⟩ W n1 y1 n2 y2
            simp only at h9
            rw [HYk.out, HYo.out, HYq.out, HYv.out] at h9
            exact h9))
          clear hpi N1 N2 Y1 Y2
          by_cases hkk : r.k = 1 ∨ r.k = 2
          · have hne : ((i : Int) == p.s.i) = false := by
              rw [HFR.out hkk, beq_eq_false_iff_ne]
              intro e
              apply hJ
              unfold newJ
              rw [if_pos hkk]
              congr 1
              omega
            clear HFR hJ
            rcases hkk with hk | hk
            · rw [hk] at hr0
              clear hk
              go_upto_region 18 with fail
              obtain ⟨wy, rfl⟩ : ∃ wy : World, wy = wx := ⟨_, rfl⟩
              have BY := BX
              have XY := XB
              clear BX XB
              have SY := Lib.hid (S.out.step BY.out)
              have k1c := SY.out.k1.c 0 _ rfl
              have k1l := SY.out.k1.lt
              have hgl := SY.out.o1.lt.2
              have xl := XY.out.lt
              have x0 := XY.out.c 0 _ rfl
              have x1 := XY.out.c 1 _ rfl
              have x2 := XY.out.c 2 _ rfl
              have x3 := XY.out.c 3 _ rfl
              have x4 := XY.out.c 4 _ rfl
              have x5 := XY.out.c 5 _ rfl
              have x6 := XY.out.c 6 _ rfl
              have x7 := XY.out.c 7 _ rfl
              have hnod := SY.out.o1.nodc hlt
              rw [HX.out, HS1.out] at hnod
              have c0 := hnod.c0
              have c1 := hnod.c1
              have c2 := hnod.c2
              have c3 := hnod.c3
              have c4 := hnod.c4
              have c5 := hnod.c5
              have c6 := hnod.c6
              have c7 := hnod.c7
              change wy.cell? ⟨g, i * 8, none⟩ = some (.int .i64 (ino t2 i).k) at c0
              change wy.cell? ⟨g, i * 8 + 1, none⟩ = some (.int .i64 (ino t2 i).o) at c1
              change wy.cell? ⟨g, i * 8 + 6, none⟩ = some (.int .i64 (ino t2 i).q) at c6
              change wy.cell? ⟨g, i * 8 + 7, none⟩ = some (.int .i64 (ino t2 i).v) at c7
              rw [HYk.out] at c0
              rw [HYq.out] at c6
              rw [HYv.out] at c7
              rw [HYo.out] at c1
              simp only at c2 c3 c4 c5
              clear hnod
              go_wp2_with fail
              go_region_with (go_at_call 11; refine (CI.out _ (BY.out.trans ((below_drewN (Below.refl _ _) _).mono BY.out.size))).mono ?_; rintro e zz ⟨rfl, hzz⟩)
              all_goals
                have hz3 : Below wy.heap.size wy zz := by first | exact hzz | exact ((Below.refl wy.heap.size wy).drew).trans hzz | exact (below_drewN (Below.refl wy.heap.size wy) _).trans hzz
                have SZ := Lib.hid (SY.out.step hz3)
                clear hzz hz3 c0 c1 c2 c3 c4 c5 c6 c7 x0 x1 x2 x3 x4 x5 x6 x7 k1c k1l xl
                go_wp2
                go_roundg (t'.length - (i + 1))
                case measure => exact Nat.lt_of_lt_of_le hm9 hg
                case rel => exact ⟨i + 1, by omega, by omega, by go_num, SZ.out⟩
            · rw [hk] at hr0
              clear hk
              go_upto_region 18 with fail
              obtain ⟨wy, rfl⟩ : ∃ wy : World, wy = wx := ⟨_, rfl⟩
              have BY := BX
              have XY := XB
              clear BX XB
              have SY := Lib.hid (S.out.step BY.out)
              have k1c := SY.out.k1.c 0 _ rfl
              have k1l := SY.out.k1.lt
              have hgl := SY.out.o1.lt.2
              have xl := XY.out.lt
              have x0 := XY.out.c 0 _ rfl
              have x1 := XY.out.c 1 _ rfl
              have x2 := XY.out.c 2 _ rfl
              have x3 := XY.out.c 3 _ rfl
              have x4 := XY.out.c 4 _ rfl
              have x5 := XY.out.c 5 _ rfl
              have x6 := XY.out.c 6 _ rfl
              have x7 := XY.out.c 7 _ rfl
              have hnod := SY.out.o1.nodc hlt
              rw [HX.out, HS1.out] at hnod
              have c0 := hnod.c0
              have c1 := hnod.c1
              have c2 := hnod.c2
              have c3 := hnod.c3
              have c4 := hnod.c4
              have c5 := hnod.c5
              have c6 := hnod.c6
              have c7 := hnod.c7
              change wy.cell? ⟨g, i * 8, none⟩ = some (.int .i64 (ino t2 i).k) at c0
              change wy.cell? ⟨g, i * 8 + 1, none⟩ = some (.int .i64 (ino t2 i).o) at c1
              change wy.cell? ⟨g, i * 8 + 6, none⟩ = some (.int .i64 (ino t2 i).q) at c6
              change wy.cell? ⟨g, i * 8 + 7, none⟩ = some (.int .i64 (ino t2 i).v) at c7
              rw [HYk.out] at c0
              rw [HYq.out] at c6
              rw [HYv.out] at c7
              rw [HYo.out] at c1
              simp only at c2 c3 c4 c5
              clear hnod
              go_wp2_with fail
              go_region_with (go_at_call 11; refine (CI.out _ (BY.out.trans ((below_drewN (Below.refl _ _) _).mono BY.out.size))).mono ?_; rintro e zz ⟨rfl, hzz⟩)
              all_goals
                have hz3 : Below wy.heap.size wy zz := by first | exact hzz | exact ((Below.refl wy.heap.size wy).drew).trans hzz | exact (below_drewN (Below.refl wy.heap.size wy) _).trans hzz
                have SZ := Lib.hid (SY.out.step hz3)
                clear hzz hz3 c0 c1 c2 c3 c4 c5 c6 c7 x0 x1 x2 x3 x4 x5 x6 x7 k1c k1l xl
                go_wp2
                go_roundg (t'.length - (i + 1))
                case measure => exact Nat.lt_of_lt_of_le hm9 hg
                case rel => exact ⟨i + 1, by omega, by omega, by go_num, SZ.out⟩
          · have hb1 : (r.k == 1) = false := by rw [beq_eq_false_iff_ne]; exact fun h => hkk (.inl h)
            have hb2 : (r.k == 2) = false := by rw [beq_eq_false_iff_ne]; exact fun h => hkk (.inr h)
            clear HFR hJ hkk
            go_upto_region 18 with fail
            obtain ⟨wy, rfl⟩ : ∃ wy : World, wy = wx := ⟨_, rfl⟩
            have BY := BX
            have XY := XB
            clear BX XB
            have SY := Lib.hid (S.out.step BY.out)
            have k1c := SY.out.k1.c 0 _ rfl
            have k1l := SY.out.k1.lt
            have hgl := SY.out.o1.lt.2
            have xl := XY.out.lt
            have x0 := XY.out.c 0 _ rfl
            have x1 := XY.out.c 1 _ rfl
            have x2 := XY.out.c 2 _ rfl
            have x3 := XY.out.c 3 _ rfl
            have x4 := XY.out.c 4 _ rfl
            have x5 := XY.out.c 5 _ rfl
            have x6 := XY.out.c 6 _ rfl
            have x7 := XY.out.c 7 _ rfl
            have hnod := SY.out.o1.nodc hlt
            rw [HX.out, HS1.out] at hnod
            have c0 := hnod.c0
            have c1 := hnod.c1
            have c2 := hnod.c2
            have c3 := hnod.c3
            have c4 := hnod.c4
            have c5 := hnod.c5
            have c6 := hnod.c6
            have c7 := hnod.c7
            change wy.cell? ⟨g, i * 8, none⟩ = some (.int .i64 (ino t2 i).k) at c0
            change wy.cell? ⟨g, i * 8 + 1, none⟩ = some (.int .i64 (ino t2 i).o) at c1
            change wy.cell? ⟨g, i * 8 + 6, none⟩ = some (.int .i64 (ino t2 i).q) at c6
            change wy.cell? ⟨g, i * 8 + 7, none⟩ = some (.int .i64 (ino t2 i).v) at c7
            rw [HYk.out] at c0
            rw [HYq.out] at c6
            rw [HYv.out] at c7
            rw [HYo.out] at c1
            simp only at c2 c3 c4 c5
            clear hnod
            go_wp2_with fail
            go_region_with (go_at_call 11; refine (CI.out _ (BY.out.trans ((below_drewN (Below.refl _ _) _).mono BY.out.size))).mono ?_; rintro e zz ⟨rfl, hzz⟩)
            all_goals
              have hz3 : Below wy.heap.size wy zz := by first | exact hzz | exact ((Below.refl wy.heap.size wy).drew).trans hzz | exact (below_drewN (Below.refl wy.heap.size wy) _).trans hzz
              have SZ := Lib.hid (SY.out.step hz3)
              clear hzz hz3 c0 c1 c2 c3 c4 c5 c6 c7 x0 x1 x2 x3 x4 x5 x6 x7 k1c k1l xl
              go_wp2
              go_roundg (t'.length - (i + 1))
              case measure => exact Nat.lt_of_lt_of_le hm9 hg
              case rel => exact ⟨i + 1, by omega, by omega, by go_num, SZ.out⟩
      · obtain rfl : i = t'.length := by omega
        go_wp2
        go_ret
        exact ⟨rfl, S.out.b⟩
  · have hpcb : (p.c != 0) = true := by simpa using hpc
    clear HS hpc
    go_wp2
    go_ret
    exact ⟨rfl, B6.out⟩

theorem lawSuper_any (a : Option Addr) (c : Nat) (t : FT) (r : Rq) (vd va : Value) (w : World) (gm : GM w) (h : FNods w w.heap.size a c t) (hr : RqS w w.heap.size vd va r) :
    Calls Tryz.prog 4 #[.agg #[.slice a t.length c], rqV r vd va] w fun e w' => e = .returned (.bool true) ∧ Below w.heap.size w w' := by
  by_cases hh : (valT (tr t)).1 = 0 ∧ rqC r = 0
  · exact lawSuperOk_any a c t r vd va w gm h hr hh.1 hh.2
  · exact lawSuperBad_any a c t r vd va w gm h hr hh

end Go.Proofs.YtmgamdjinhlgoaaGreatDoor
