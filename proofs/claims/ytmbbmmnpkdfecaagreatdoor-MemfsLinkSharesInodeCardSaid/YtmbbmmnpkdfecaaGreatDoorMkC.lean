/- What a law of package memfs or of its neighbours needs, at the translation of this seat.
   Condition: as each theorem states; this text: MfLawLnk. -/
import Derived.Test.YtmbbmmnpkdfecaaGreatDoorMkB
import Derived.WalkSmall

set_option linter.all false

/- The law MemfsLinkSharesInode returns true at every tree, request and slice of bytes. Conditions: they lie in memory as they read; the door's variable lies in memory. -/

set_option linter.all false
namespace Go.Proofs.YtmbbmmnpkdfecaaGreatDoor
open Go.RowKit

set_option maxRecDepth 100000 in
set_option maxHeartbeats 6400000 in
theorem lawLnkBad_any (a : Option Addr) (c : Nat) (t : FT) (r : Rq) (vd va : Value) (b : List UInt8) (vb : Value) (w : World) (gm : GM w) (h : FNods w w.heap.size a c t) (hr : RqS w w.heap.size vd va r) (hy : Byts w w.heap.size vb b) (hbad : ¬ ((valT (tr t)).1 = 0 ∧ rqC (rqZ r) = 0)) :
    Calls Tryz.prog 8 #[.agg #[.slice a t.length c], rqV r vd va, vb] w fun e w' => e = .returned (.bool true) ∧ Below w.heap.size w w' := by
  obtain ⟨qa, qc, rfl, hqd⟩ := id hr.d
  obtain ⟨pa, pc, rfl, hpd⟩ := id hr.ac
  clear hqd hpd
  have T := Lib.hid (two_new w [.slice a t.length c] (rqL r (.slice qa r.d.length qc) (.slice pa r.ac.length pc)) 24 30)
  unfold rqL at T
  have hsupV : rqV (rqZ r) (.slice qa r.d.length qc) (.slice pa r.ac.length pc) = .agg #[.int .i64 r.k, .int .i64 0, .string r.p, .string r.t, .int .i64 r.off, .int .i64 r.sz, .slice qa r.d.length qc, .slice pa r.ac.length pc, .string r.a.n, .string r.a.v] := rfl
  have CE := Lib.hid (fun W (hb : Below w.heap.size w W) => example_any W (gm.below hb))
  obtain ⟨ba, bc, rfl, hyd⟩ := id hy
  clear hyd
  have CA := Lib.hid (fun W (hb : Below w.heap.size w W) => (applyFault_any a c t (rqZ r) (.slice qa r.d.length qc) (.slice pa r.ac.length pc) W (gm.below hb) (h.up hb) (hr.up hb).zero hbad).2)
  have hne := (applyFault_any a c t (rqZ r) (.slice qa r.d.length qc) (.slice pa r.ac.length pc) w gm h hr.zero hbad).1
  clear gm h hr hbad hy
  generalize (fltF t (rqZ r)).1 = fc at *
  generalize (fltF t (rqZ r)).2 = fi at *
  have hcc : (fc != 0) = true := by simpa using hne
  have hcd : (fc == 0) = false := by simpa using hne
  clear hne
  unfold rpV at CA
  rw [hsupV] at CA
  clear hsupV
  unfold rqV at *
  go_enter Tryz.func8, Tryz.ntmps8
  go_upto_region 1 with fail
  have hNe : w.heap.size ≠ w.heap.size + 1 := by omega
  have hNw : w.heap.size ≤ w.heap.size + 1 := by omega
  generalize (w.alloc (.cells #[.slice a t.length c] 24)).alloc (.cells #[.int .i64 r.k, .int .i64 r.u, .string r.p, .string r.t, .int .i64 r.off, .int .i64 r.sz, .slice qa r.d.length qc, .slice pa r.ac.length pc, .string r.a.n, .string r.a.v] 30) = w2 at *
  generalize w.heap.size + 1 = N at *
  obtain ⟨tb, tt, tr'⟩ := T.out
  have B2 := Lib.hid tb
  have KT2 := Lib.hid tt
  have KR2 := Lib.hid tr'
  clear tb tt tr' T
  have u1 := KR2.out.c 1 _ rfl
  have u1f := KR2.out.f 1 (by simp)
  have ul := KR2.out.lt
  go_upto_region 2 with fail
  have KR := Lib.hid (show Blk (w2.setCell ⟨N, 1, none⟩ (.int .i64 0)) N [.int .i64 r.k, .int .i64 0, .string r.p, .string r.t, .int .i64 r.off, .int .i64 r.sz, .slice qa r.d.length qc, .slice pa r.ac.length pc, .string r.a.n, .string r.a.v] from KR2.out.put 1 (.int .i64 0) (by simp))
  have KT := Lib.hid (KT2.out.far (p := ⟨N, 1, none⟩) hNe (.int .i64 0))
  have B3 := Lib.hid (B2.out.setCell (p := ⟨N, 1, none⟩) hNw (.int .i64 0))
  clear u1 u1f ul KT2 KR2 B2 hNe hNw
  generalize w2.setCell ⟨N, 1, none⟩ (.int .i64 0) = w3 at *
  have k0 := KT.out.c 0 _ rfl
  have u0 := KR.out.c 0 _ rfl
  have u1 := KR.out.c 1 _ rfl
  have u2 := KR.out.c 2 _ rfl
  have u3 := KR.out.c 3 _ rfl
  have u4 := KR.out.c 4 _ rfl
  have u5 := KR.out.c 5 _ rfl
  have u6 := KR.out.c 6 _ rfl
  have u7 := KR.out.c 7 _ rfl
  have u8 := KR.out.c 8 _ rfl
  have u9 := KR.out.c 9 _ rfl
  have kl := KT.out.lt
  have ul := KR.out.lt
  go_wp2_with fail
  refine (CA.out _ B3.out).mono ?_
  rintro e z ⟨hbz, rfl⟩
  clear k0 u0 u1 u2 u3 u4 u5 u6 u7 u8 u9 kl ul CA
  have TN := Lib.hid (three_new z [.slice none 0 0] [.int .i64 0, .slice none 0 0, .slice none 0 0, .int .i64 0, .int .i64 0, .int .i64 0, .int .i64 0, .int .i64 0, .int .i64 0] [.int .i64 fc, .int .i64 fi] 24 35 37)
  go_upto_region 3 with fail
  have gg := hbz.trans (TN.out.1.mono hbz.size)
  have KT5 := Lib.hid (KT.out.up gg)
  have KR5 := Lib.hid (KR.out.up gg)
  have B5 := Lib.hid (B3.out.trans (gg.mono B3.out.size))
  clear gg hbz KT KR B3
  generalize ((z.alloc (.cells #[.slice none 0 0] 24)).alloc (.cells #[.int .i64 0, .slice none 0 0, .slice none 0 0, .int .i64 0, .int .i64 0, .int .i64 0, .int .i64 0, .int .i64 0, .int .i64 0] 35)).alloc (.cells #[.int .i64 fc, .int .i64 fi] 37) = w5 at *
  generalize z.heap.size + 1 + 1 = n3 at *
  generalize z.heap.size + 1 = n2 at *
  generalize z.heap.size = n1 at *
  have U5 := Lib.hid TN.out.2.1
  have P5 := Lib.hid TN.out.2.2.1
  have F5 := Lib.hid TN.out.2.2.2
  clear TN
  go_wp2_with fail
  refine (CE.out _ B5.out).mono ?_
  rintro e w6 ⟨rfl, b6⟩
  have B6 := Lib.hid (B5.out.trans (b6.mono B5.out.size))
  have KT6 := Lib.hid (KT5.out.up b6)
  have KR6 := Lib.hid (KR5.out.up b6)
  have U6 := Lib.hid (U5.out.up b6)
  have P6 := Lib.hid (P5.out.up b6)
  have F6 := Lib.hid (F5.out.up b6)
  clear b6 KT5 KR5 U5 P5 F5 B5 CE
  have f0 := F6.out.c 0 _ rfl
  have fl := F6.out.lt
  have p0 := P6.out.c 0 _ rfl
  have pl := P6.out.lt
  have u0 := KR6.out.c 0 _ rfl
  have ul := KR6.out.lt
  have p1 := P6.out.c 1 _ rfl
  have p2 := P6.out.c 2 _ rfl
  have p3 := P6.out.c 3 _ rfl
  have p4 := P6.out.c 4 _ rfl
  have p5 := P6.out.c 5 _ rfl
  have p6 := P6.out.c 6 _ rfl
  have p7 := P6.out.c 7 _ rfl
  have p8 := P6.out.c 8 _ rfl
  go_wp2_with fail
  refine (isEmptyNil_any _).mono ?_
  rintro e w7 ⟨rfl, b7⟩
  go_wp2
  go_ret
  exact ⟨rfl, B6.out.trans (b7.mono B6.out.size)⟩

set_option maxRecDepth 100000 in
set_option maxHeartbeats 6400000 in
theorem lawLnkErr_any (a : Option Addr) (c : Nat) (t : FT) (r : Rq) (vd va : Value) (b : List UInt8) (vb : Value) (w : World) (gm : GM w) (h : FNods w w.heap.size a c t) (hr : RqS w w.heap.size vd va r) (hy : Byts w w.heap.size vb b) (hv : (valT (tr t)).1 = 0) (hq : rqC (rqZ r) = 0) (hc : (applyF t (rqZ r)).2.c ≠ 0 ∨ r.k ≠ 10) :
    Calls Tryz.prog 8 #[.agg #[.slice a t.length c], rqV r vd va, vb] w fun e w' => e = .returned (.bool true) ∧ Below w.heap.size w w' := by
  obtain ⟨qa, qc, rfl, hqd⟩ := id hr.d
  obtain ⟨pa, pc, rfl, hpd⟩ := id hr.ac
  clear hqd hpd
  have T := Lib.hid (two_new w [.slice a t.length c] (rqL r (.slice qa r.d.length qc) (.slice pa r.ac.length pc)) 24 30)
  unfold rqL at T
  have hsupV : rqV (rqZ r) (.slice qa r.d.length qc) (.slice pa r.ac.length pc) = .agg #[.int .i64 r.k, .int .i64 0, .string r.p, .string r.t, .int .i64 r.off, .int .i64 r.sz, .slice qa r.d.length qc, .slice pa r.ac.length pc, .string r.a.n, .string r.a.v] := rfl
  have CE := Lib.hid (fun W (hb : Below w.heap.size w W) => example_any W (gm.below hb))
  obtain ⟨ba, bc, rfl, hyd⟩ := id hy
  clear hyd
  have CA := Lib.hid (fun W (hb : Below w.heap.size w W) => applyOk_any a c t (rqZ r) (.slice qa r.d.length qc) (.slice pa r.ac.length pc) W (gm.below hb) (h.up hb) (hr.up hb).zero hv hq)
  clear gm h hr hv hq hy
  generalize applyF t (rqZ r) = AF at *
  obtain ⟨t', p⟩ := AF
  simp only at CA hc
  have HC := Lib.hid hc
  clear hc
  unfold rpV at CA
  rw [hsupV] at CA
  clear hsupV
  unfold rqV at *
  go_enter Tryz.func8, Tryz.ntmps8
  go_upto_region 1 with fail
  have hNe : w.heap.size ≠ w.heap.size + 1 := by omega
  have hNw : w.heap.size ≤ w.heap.size + 1 := by omega
  generalize (w.alloc (.cells #[.slice a t.length c] 24)).alloc (.cells #[.int .i64 r.k, .int .i64 r.u, .string r.p, .string r.t, .int .i64 r.off, .int .i64 r.sz, .slice qa r.d.length qc, .slice pa r.ac.length pc, .string r.a.n, .string r.a.v] 30) = w2 at *
  generalize w.heap.size + 1 = N at *
  obtain ⟨tb, tt, tr'⟩ := T.out
  have B2 := Lib.hid tb
  have KT2 := Lib.hid tt
  have KR2 := Lib.hid tr'
  clear tb tt tr' T
  have u1 := KR2.out.c 1 _ rfl
  have u1f := KR2.out.f 1 (by simp)
  have ul := KR2.out.lt
  go_upto_region 2 with fail
  have KR := Lib.hid (show Blk (w2.setCell ⟨N, 1, none⟩ (.int .i64 0)) N [.int .i64 r.k, .int .i64 0, .string r.p, .string r.t, .int .i64 r.off, .int .i64 r.sz, .slice qa r.d.length qc, .slice pa r.ac.length pc, .string r.a.n, .string r.a.v] from KR2.out.put 1 (.int .i64 0) (by simp))
  have KT := Lib.hid (KT2.out.far (p := ⟨N, 1, none⟩) hNe (.int .i64 0))
  have B3 := Lib.hid (B2.out.setCell (p := ⟨N, 1, none⟩) hNw (.int .i64 0))
  clear u1 u1f ul KT2 KR2 B2 hNe hNw
  generalize w2.setCell ⟨N, 1, none⟩ (.int .i64 0) = w3 at *
  have k0 := KT.out.c 0 _ rfl
  have u0 := KR.out.c 0 _ rfl
  have u1 := KR.out.c 1 _ rfl
  have u2 := KR.out.c 2 _ rfl
  have u3 := KR.out.c 3 _ rfl
  have u4 := KR.out.c 4 _ rfl
  have u5 := KR.out.c 5 _ rfl
  have u6 := KR.out.c 6 _ rfl
  have u7 := KR.out.c 7 _ rfl
  have u8 := KR.out.c 8 _ rfl
  have u9 := KR.out.c 9 _ rfl
  have kl := KT.out.lt
  have ul := KR.out.lt
  go_wp2_with fail
  refine (CA.out _ B3.out).mono ?_
  rintro e z ⟨hbz, g, cap, sl, vd', vn', rfl, ho, hs⟩
  obtain ⟨da, dc, rfl, hda⟩ := id hs.d
  obtain ⟨na, nc, rfl, hna⟩ := id hs.ns
  have OZ := Lib.hid ho
  clear hda hna ho hs
  clear k0 u0 u1 u2 u3 u4 u5 u6 u7 u8 u9 kl ul CA
  have TN := Lib.hid (three_new z [.slice (some ⟨g, 0, none⟩) t'.length cap] [.int .i64 p.c, .slice da p.d.length dc, .slice na p.ns.length nc, .int .i64 p.s.i, .int .i64 p.s.k, .int .i64 p.s.o, .int .i64 p.s.z, .int .i64 p.s.l, .int .i64 p.s.v] [.int .i64 0, .int .i64 0] 24 35 37)
  go_upto_region 3 with fail
  have gg := hbz.trans (TN.out.1.mono hbz.size)
  have KT5 := Lib.hid (KT.out.up gg)
  have KR5 := Lib.hid (KR.out.up gg)
  have B5 := Lib.hid (B3.out.trans (gg.mono B3.out.size))
  have O5 := Lib.hid (OZ.out.up TN.out.1)
  clear gg hbz KT KR B3
  generalize ((z.alloc (.cells #[.slice (some ⟨g, 0, none⟩) t'.length cap] 24)).alloc (.cells #[.int .i64 p.c, .slice da p.d.length dc, .slice na p.ns.length nc, .int .i64 p.s.i, .int .i64 p.s.k, .int .i64 p.s.o, .int .i64 p.s.z, .int .i64 p.s.l, .int .i64 p.s.v] 35)).alloc (.cells #[.int .i64 0, .int .i64 0] 37) = w5 at *
  generalize z.heap.size + 1 + 1 = n3 at *
  generalize z.heap.size + 1 = n2 at *
  generalize z.heap.size = n1 at *
  have U5 := Lib.hid TN.out.2.1
  have P5 := Lib.hid TN.out.2.2.1
  have F5 := Lib.hid TN.out.2.2.2
  clear TN
  clear OZ
  go_wp2_with fail
  refine (CE.out _ B5.out).mono ?_
  rintro e w6 ⟨rfl, b6⟩
  have B6 := Lib.hid (B5.out.trans (b6.mono B5.out.size))
  have KT6 := Lib.hid (KT5.out.up b6)
  have KR6 := Lib.hid (KR5.out.up b6)
  have U6 := Lib.hid (U5.out.up b6)
  have P6 := Lib.hid (P5.out.up b6)
  have F6 := Lib.hid (F5.out.up b6)
  have O6 := Lib.hid (O5.out.up b6)
  clear b6 KT5 KR5 U5 P5 F5 B5 CE O5
  have f0 := F6.out.c 0 _ rfl
  have fl := F6.out.lt
  have p0 := P6.out.c 0 _ rfl
  have pl := P6.out.lt
  have u0 := KR6.out.c 0 _ rfl
  have ul := KR6.out.lt
  by_cases hp : p.c = 0
  · rw [hp] at p0
    have hk4 : (r.k != 10) = true := by simpa using HC.out.resolve_left (fun h => h hp)
    clear hp HC
    go_wp2
    go_ret
    exact ⟨rfl, B6.out⟩
  · have hpc : (p.c != 0) = true := by simpa using hp
    clear hp HC
    go_wp2
    go_ret
    exact ⟨rfl, B6.out⟩

set_option maxRecDepth 100000 in
set_option maxHeartbeats 6400000 in
theorem lawLnkBig_any (a : Option Addr) (c : Nat) (t : FT) (r : Rq) (vd va : Value) (b : List UInt8) (vb : Value) (w : World) (gm : GM w) (h : FNods w w.heap.size a c t) (hr : RqS w w.heap.size vd va r) (hy : Byts w w.heap.size vb b) (hv : (valT (tr t)).1 = 0) (hq : rqC (rqZ r) = 0) (hc : (applyF t (rqZ r)).2.c = 0) (hk : r.k = 10) (hlb : ¬ b.length ≤ 200) :
    Calls Tryz.prog 8 #[.agg #[.slice a t.length c], rqV r vd va, vb] w fun e w' => e = .returned (.bool true) ∧ Below w.heap.size w w' := by
  obtain ⟨qa, qc, rfl, hqd⟩ := id hr.d
  obtain ⟨pa, pc, rfl, hpd⟩ := id hr.ac
  clear hqd hpd
  have T := Lib.hid (two_new w [.slice a t.length c] (rqL r (.slice qa r.d.length qc) (.slice pa r.ac.length pc)) 24 30)
  unfold rqL at T
  have hsupV : rqV (rqZ r) (.slice qa r.d.length qc) (.slice pa r.ac.length pc) = .agg #[.int .i64 r.k, .int .i64 0, .string r.p, .string r.t, .int .i64 r.off, .int .i64 r.sz, .slice qa r.d.length qc, .slice pa r.ac.length pc, .string r.a.n, .string r.a.v] := rfl
  have CE := Lib.hid (fun W (hb : Below w.heap.size w W) => example_any W (gm.below hb))
  obtain ⟨ba, bc, rfl, hyd⟩ := id hy
  clear hyd
  have CA := Lib.hid (fun W (hb : Below w.heap.size w W) => applyOk_any a c t (rqZ r) (.slice qa r.d.length qc) (.slice pa r.ac.length pc) W (gm.below hb) (h.up hb) (hr.up hb).zero hv hq)
  obtain ⟨n, hpp, hpt, hsi, hrt, hrp, hzc, hl1, hl2⟩ := link_at (t := t) (r := rqZ r) hv hk rfl hq hc
  change pathB r.p = true at hpp
  change pathB r.t = true at hpt
  change reachF _ 0 r.t 2 2 = _ at hrt
  change reachF _ 0 r.p 2 2 = _ at hrp
  change (applyF _ (rmq r.t)).2.c = 0 at hzc
  change (lookF (tr (applyF _ (rmq r.t)).1) r.p).1 = n at hl1
  change (lookF (tr (applyF _ (rmq r.t)).1) r.p).2.1 = 0 at hl2
  have hps := hr.p
  have hts := hr.t
  have hv' := apply_valid hv (rqZ r)
  have hwq : rqC (wbq r.t b) ≠ 0 := fun hh => hlb ((wbq_code hpt b).1 hh)
  have hne : (fltF (applyF t (rqZ r)).1 (wbq r.t b)).1 ≠ 0 := by
    unfold fltF
    rw [if_neg (by rw [hv']; simp)]
    exact hwq
  have CW := Lib.hid (fun W g cap (h2 : FNods W W.heap.size (some ⟨g, 0, none⟩) cap (applyF t (rqZ r)).1) (hb : Below w.heap.size w W) => (applyFault_any (some ⟨g, 0, none⟩) cap (applyF t (rqZ r)).1 (wbq r.t b) (.slice ba b.length bc) (.slice none 0 0) W (gm.below hb) h2 (RqS.wbq (hy.up hb) hts) (fun hh => hwq hh.2)).2)
  rw [show rqV (wbq r.t b) (.slice ba b.length bc) (.slice none 0 0) = .agg #[.int .i64 4, .int .i64 0, .string r.t, .string ByteArray.empty, .int .i64 0, .int .i64 0, .slice ba b.length bc, .slice none 0 0, .string ByteArray.empty, .string ByteArray.empty] from rfl] at CW
  unfold rpV at CW
  clear gm h hr hv hq hy hpp hpt hsi hrt hrp hzc hl1 hl2 hps hts hv' hwq
  generalize (fltF (applyF t (rqZ r)).1 (wbq r.t b)).1 = xc at *
  generalize (fltF (applyF t (rqZ r)).1 (wbq r.t b)).2 = xi at *
  generalize applyF t (rqZ r) = AF at *
  obtain ⟨t', p⟩ := AF
  simp only at CA hc CW
  have HC := Lib.hid hc
  have HK := Lib.hid hk
  have HNE := Lib.hid hne
  have HLB := Lib.hid hlb
  clear hc hk hne hlb
  unfold rpV at CA
  rw [hsupV] at CA
  clear hsupV
  unfold rqV at *
  go_enter Tryz.func8, Tryz.ntmps8
  go_upto_region 1 with fail
  have hNe : w.heap.size ≠ w.heap.size + 1 := by omega
  have hNw : w.heap.size ≤ w.heap.size + 1 := by omega
  generalize (w.alloc (.cells #[.slice a t.length c] 24)).alloc (.cells #[.int .i64 r.k, .int .i64 r.u, .string r.p, .string r.t, .int .i64 r.off, .int .i64 r.sz, .slice qa r.d.length qc, .slice pa r.ac.length pc, .string r.a.n, .string r.a.v] 30) = w2 at *
  generalize w.heap.size + 1 = N at *
  obtain ⟨tb, tt, tr'⟩ := T.out
  have B2 := Lib.hid tb
  have KT2 := Lib.hid tt
  have KR2 := Lib.hid tr'
  clear tb tt tr' T
  have u1 := KR2.out.c 1 _ rfl
  have u1f := KR2.out.f 1 (by simp)
  have ul := KR2.out.lt
  go_upto_region 2 with fail
  have KR := Lib.hid (show Blk (w2.setCell ⟨N, 1, none⟩ (.int .i64 0)) N [.int .i64 r.k, .int .i64 0, .string r.p, .string r.t, .int .i64 r.off, .int .i64 r.sz, .slice qa r.d.length qc, .slice pa r.ac.length pc, .string r.a.n, .string r.a.v] from KR2.out.put 1 (.int .i64 0) (by simp))
  have KT := Lib.hid (KT2.out.far (p := ⟨N, 1, none⟩) hNe (.int .i64 0))
  have B3 := Lib.hid (B2.out.setCell (p := ⟨N, 1, none⟩) hNw (.int .i64 0))
  clear u1 u1f ul KT2 KR2 B2 hNe hNw
  generalize w2.setCell ⟨N, 1, none⟩ (.int .i64 0) = w3 at *
  have k0 := KT.out.c 0 _ rfl
  have u0 := KR.out.c 0 _ rfl
  have u1 := KR.out.c 1 _ rfl
  have u2 := KR.out.c 2 _ rfl
  have u3 := KR.out.c 3 _ rfl
  have u4 := KR.out.c 4 _ rfl
  have u5 := KR.out.c 5 _ rfl
  have u6 := KR.out.c 6 _ rfl
  have u7 := KR.out.c 7 _ rfl
  have u8 := KR.out.c 8 _ rfl
  have u9 := KR.out.c 9 _ rfl
  have kl := KT.out.lt
  have ul := KR.out.lt
  go_wp2_with fail
  refine (CA.out _ B3.out).mono ?_
  rintro e z ⟨hbz, g, cap, sl, vd', vn', rfl, ho, hs⟩
  obtain ⟨da, dc, rfl, hda⟩ := id hs.d
  obtain ⟨na, nc, rfl, hna⟩ := id hs.ns
  have OZ := Lib.hid ho
  clear hda hna ho hs
  clear k0 u0 u1 u2 u3 u4 u5 u6 u7 u8 u9 kl ul CA
  have TN := Lib.hid (three_new z [.slice (some ⟨g, 0, none⟩) t'.length cap] [.int .i64 p.c, .slice da p.d.length dc, .slice na p.ns.length nc, .int .i64 p.s.i, .int .i64 p.s.k, .int .i64 p.s.o, .int .i64 p.s.z, .int .i64 p.s.l, .int .i64 p.s.v] [.int .i64 0, .int .i64 0] 24 35 37)
  go_upto_region 3 with fail
  have gg := hbz.trans (TN.out.1.mono hbz.size)
  have KT5 := Lib.hid (KT.out.up gg)
  have KR5 := Lib.hid (KR.out.up gg)
  have B5 := Lib.hid (B3.out.trans (gg.mono B3.out.size))
  have O5 := Lib.hid (OZ.out.up TN.out.1)
  clear gg hbz KT KR B3
  generalize ((z.alloc (.cells #[.slice (some ⟨g, 0, none⟩) t'.length cap] 24)).alloc (.cells #[.int .i64 p.c, .slice da p.d.length dc, .slice na p.ns.length nc, .int .i64 p.s.i, .int .i64 p.s.k, .int .i64 p.s.o, .int .i64 p.s.z, .int .i64 p.s.l, .int .i64 p.s.v] 35)).alloc (.cells #[.int .i64 0, .int .i64 0] 37) = w5 at *
  generalize z.heap.size + 1 + 1 = n3 at *
  generalize z.heap.size + 1 = n2 at *
  generalize z.heap.size = n1 at *
  have U5 := Lib.hid TN.out.2.1
  have P5 := Lib.hid TN.out.2.2.1
  have F5 := Lib.hid TN.out.2.2.2
  clear TN
  clear OZ
  go_wp2_with fail
  refine (CE.out _ B5.out).mono ?_
  rintro e w6 ⟨rfl, b6⟩
  have B6 := Lib.hid (B5.out.trans (b6.mono B5.out.size))
  have KT6 := Lib.hid (KT5.out.up b6)
  have KR6 := Lib.hid (KR5.out.up b6)
  have U6 := Lib.hid (U5.out.up b6)
  have P6 := Lib.hid (P5.out.up b6)
  have F6 := Lib.hid (F5.out.up b6)
  have O6 := Lib.hid (O5.out.up b6)
  clear b6 KT5 KR5 U5 P5 F5 B5 CE O5
  have f0 := F6.out.c 0 _ rfl
  have fl := F6.out.lt
  have p0 := P6.out.c 0 _ rfl
  have pl := P6.out.lt
  have u0 := KR6.out.c 0 _ rfl
  have ul := KR6.out.lt
  rw [HC.out] at p0
  rw [HK.out] at u0
  have t0 := U6.out.c 0 _ rfl
  have tl := U6.out.lt
  have u3 := KR6.out.c 3 _ rfl
  go_wp2_with fail
  refine (CW.out _ g cap O6.out.fnods B6.out).mono ?_
  rintro e y ⟨hbz, rfl⟩
  clear f0 fl p0 pl u0 ul t0 tl u3 F6 CW
  have TN := Lib.hid (three_new y [.slice none 0 0] [.int .i64 0, .slice none 0 0, .slice none 0 0, .int .i64 0, .int .i64 0, .int .i64 0, .int .i64 0, .int .i64 0, .int .i64 0] [.int .i64 xc, .int .i64 xi] 24 35 37)
  go_upto_region 8 with fail
  have gg := hbz.trans (TN.out.1.mono hbz.size)
  have B7 := Lib.hid (B6.out.trans (gg.mono B6.out.size))
  clear gg hbz B6
  generalize ((y.alloc (.cells #[.slice none 0 0] 24)).alloc (.cells #[.int .i64 0, .slice none 0 0, .slice none 0 0, .int .i64 0, .int .i64 0, .int .i64 0, .int .i64 0, .int .i64 0, .int .i64 0] 35)).alloc (.cells #[.int .i64 xc, .int .i64 xi] 37) = w7 at *
  generalize y.heap.size + 1 + 1 = m3 at *
  generalize y.heap.size + 1 = m2 at *
  generalize y.heap.size = m1 at *
  have FA7 := Lib.hid TN.out.2.2.2
  clear TN
  have ga := FA7.out.c 0 _ rfl
  have gal := FA7.out.lt
  have hb1 : (200 : Int) < (b.length : Int) := by have := HLB.out; omega
  have hxc : (xc != 0) = true := by simpa using HNE.out
  clear HLB HNE
  generalize b.length = lb at *
  go_wp2
  go_ret
  exact ⟨rfl, B7.out⟩

set_option maxRecDepth 100000 in
set_option maxHeartbeats 6400000 in
theorem lawLnkOk_any (a : Option Addr) (c : Nat) (t : FT) (r : Rq) (vd va : Value) (b : List UInt8) (vb : Value) (w : World) (gm : GM w) (h : FNods w w.heap.size a c t) (hr : RqS w w.heap.size vd va r) (hy : Byts w w.heap.size vb b) (hv : (valT (tr t)).1 = 0) (hq : rqC (rqZ r) = 0) (hc : (applyF t (rqZ r)).2.c = 0) (hk : r.k = 10) (hlb : b.length ≤ 200) :
    Calls Tryz.prog 8 #[.agg #[.slice a t.length c], rqV r vd va, vb] w fun e w' => e = .returned (.bool true) ∧ Below w.heap.size w w' := by
  obtain ⟨qa, qc, rfl, hqd⟩ := id hr.d
  obtain ⟨pa, pc, rfl, hpd⟩ := id hr.ac
  clear hqd hpd
  have T := Lib.hid (two_new w [.slice a t.length c] (rqL r (.slice qa r.d.length qc) (.slice pa r.ac.length pc)) 24 30)
  unfold rqL at T
  have hsupV : rqV (rqZ r) (.slice qa r.d.length qc) (.slice pa r.ac.length pc) = .agg #[.int .i64 r.k, .int .i64 0, .string r.p, .string r.t, .int .i64 r.off, .int .i64 r.sz, .slice qa r.d.length qc, .slice pa r.ac.length pc, .string r.a.n, .string r.a.v] := rfl
  have CE := Lib.hid (fun W (hb : Below w.heap.size w W) => example_any W (gm.below hb))
  obtain ⟨ba, bc, rfl, hyd⟩ := id hy
  clear hyd
  have CA := Lib.hid (fun W (hb : Below w.heap.size w W) => applyOk_any a c t (rqZ r) (.slice qa r.d.length qc) (.slice pa r.ac.length pc) W (gm.below hb) (h.up hb) (hr.up hb).zero hv hq)
  obtain ⟨n, hpp, hpt, hsi, hrt, hrp, hzc, hl1, hl2⟩ := link_at (t := t) (r := rqZ r) hv hk rfl hq hc
  change pathB r.p = true at hpp
  change pathB r.t = true at hpt
  change reachF _ 0 r.t 2 2 = _ at hrt
  change reachF _ 0 r.p 2 2 = _ at hrp
  change (applyF _ (rmq r.t)).2.c = 0 at hzc
  change (lookF (tr (applyF _ (rmq r.t)).1) r.p).1 = n at hl1
  change (lookF (tr (applyF _ (rmq r.t)).1) r.p).2.1 = 0 at hl2
  have hps := hr.p
  have hts := hr.t
  have hv' := apply_valid hv (rqZ r)
  obtain ⟨hwc, hwr, hwd⟩ := wbq_at hv' hrt hlb
  have hv2 := apply_valid hv' (wbq r.t b)
  have hwq := (wbq_code hpt b).2 hlb
  have hvy := apply_valid hv' (rmq r.t)
  have CW := Lib.hid (fun W g cap (h2 : FNods W W.heap.size (some ⟨g, 0, none⟩) cap (applyF t (rqZ r)).1) (hb : Below w.heap.size w W) => applyV_any (some ⟨g, 0, none⟩) cap (applyF t (rqZ r)).1 (wbq r.t b) (.slice ba b.length bc) (.slice none 0 0) W (gm.below hb) h2 (RqS.wbq (hy.up hb) hts) hv' hwq)
  rw [show rqV (wbq r.t b) (.slice ba b.length bc) (.slice none 0 0) = .agg #[.int .i64 4, .int .i64 0, .string r.t, .string ByteArray.empty, .int .i64 0, .int .i64 0, .slice ba b.length bc, .slice none 0 0, .string ByteArray.empty, .string ByteArray.empty] from rfl] at CW
  have CR := Lib.hid (fun W g cap (h2 : FNods W W.heap.size (some ⟨g, 0, none⟩) cap (applyF (applyF t (rqZ r)).1 (wbq r.t b)).1) (hb : Below w.heap.size w W) => applyRead_any (some ⟨g, 0, none⟩) cap (applyF (applyF t (rqZ r)).1 (wbq r.t b)).1 r.p n 0 (b.length : Int) W (gm.below hb) h2 hv2 hpp hps (by omega) (by omega) (by omega) (by omega) ((hwr r.p).trans hrp))
  have CD := Lib.hid (fun W g cap (h2 : FNods W W.heap.size (some ⟨g, 0, none⟩) cap (applyF t (rqZ r)).1) (hb : Below w.heap.size w W) => applyV_any (some ⟨g, 0, none⟩) cap (applyF t (rqZ r)).1 (rmq r.t) (.slice none 0 0) (.slice none 0 0) W (gm.below hb) h2 (RqS.rmq hts) hv' (rmq_ok hpt))
  rw [show rqV (rmq r.t) (.slice none 0 0) (.slice none 0 0) = .agg #[.int .i64 8, .int .i64 0, .string r.t, .string ByteArray.empty, .int .i64 0, .int .i64 0, .slice none 0 0, .slice none 0 0, .string ByteArray.empty, .string ByteArray.empty] from rfl] at CD
  have CL := Lib.hid (fun W g cap (h2 : FNods W W.heap.size (some ⟨g, 0, none⟩) cap (applyF (applyF t (rqZ r)).1 (rmq r.t)).1) (hb : Below w.heap.size w W) => lookup_any (some ⟨g, 0, none⟩) cap (tr (applyF (applyF t (rqZ r)).1 (rmq r.t)).1) r.p W (gm.below hb) hps h2.nods)
  unfold faultV at CL
  rw [hl1, hl2, tr_len] at CL
  rw [hzc] at CD
  generalize (lookF (tr (applyF (applyF t (rqZ r)).1 (rmq r.t)).1) r.p).2.2 = li at *
  have HYB := Lib.hid hy
  clear gm h hr hv hq hy hpp hpt hrt hrp hzc hl1 hl2 hps hts hv' hwq hwr hv2 hvy
  generalize readD (ino (applyF (applyF t (rqZ r)).1 (wbq r.t b)).1 n).d 0 (b.length : Int) = dataL at *
  generalize applyF (applyF t (rqZ r)).1 (wbq r.t b) = AW at *
  generalize applyF (applyF t (rqZ r)).1 (rmq r.t) = AD at *
  generalize applyF t (rqZ r) = AF at *
  obtain ⟨t', p⟩ := AF
  obtain ⟨t2, p2⟩ := AW
  obtain ⟨t3, p3⟩ := AD
  simp only at CA hc CW CR CD CL hwc hwd hsi
  have HC := Lib.hid hc
  have HK := Lib.hid hk
  have HSI := Lib.hid hsi
  have HWC := Lib.hid hwc
  have HWD := Lib.hid hwd
  have HLB := Lib.hid hlb
  clear hc hk hsi hwc hwd hlb
  unfold rpV at CA
  rw [hsupV] at CA
  clear hsupV
  unfold rqV at *
  go_enter Tryz.func8, Tryz.ntmps8
  go_upto_region 1 with fail
  have hNe : w.heap.size ≠ w.heap.size + 1 := by omega
  have hNw : w.heap.size ≤ w.heap.size + 1 := by omega
  generalize (w.alloc (.cells #[.slice a t.length c] 24)).alloc (.cells #[.int .i64 r.k, .int .i64 r.u, .string r.p, .string r.t, .int .i64 r.off, .int .i64 r.sz, .slice qa r.d.length qc, .slice pa r.ac.length pc, .string r.a.n, .string r.a.v] 30) = w2 at *
  generalize w.heap.size + 1 = N at *
  obtain ⟨tb, tt, tr'⟩ := T.out
  have B2 := Lib.hid tb
  have KT2 := Lib.hid tt
  have KR2 := Lib.hid tr'
  clear tb tt tr' T
  have u1 := KR2.out.c 1 _ rfl
  have u1f := KR2.out.f 1 (by simp)
  have ul := KR2.out.lt
  go_upto_region 2 with fail
  have KR := Lib.hid (show Blk (w2.setCell ⟨N, 1, none⟩ (.int .i64 0)) N [.int .i64 r.k, .int .i64 0, .string r.p, .string r.t, .int .i64 r.off, .int .i64 r.sz, .slice qa r.d.length qc, .slice pa r.ac.length pc, .string r.a.n, .string r.a.v] from KR2.out.put 1 (.int .i64 0) (by simp))
  have KT := Lib.hid (KT2.out.far (p := ⟨N, 1, none⟩) hNe (.int .i64 0))
  have B3 := Lib.hid (B2.out.setCell (p := ⟨N, 1, none⟩) hNw (.int .i64 0))
  clear u1 u1f ul KT2 KR2 B2 hNe hNw
  generalize w2.setCell ⟨N, 1, none⟩ (.int .i64 0) = w3 at *
  have k0 := KT.out.c 0 _ rfl
  have u0 := KR.out.c 0 _ rfl
  have u1 := KR.out.c 1 _ rfl
  have u2 := KR.out.c 2 _ rfl
  have u3 := KR.out.c 3 _ rfl
  have u4 := KR.out.c 4 _ rfl
  have u5 := KR.out.c 5 _ rfl
  have u6 := KR.out.c 6 _ rfl
  have u7 := KR.out.c 7 _ rfl
  have u8 := KR.out.c 8 _ rfl
  have u9 := KR.out.c 9 _ rfl
  have kl := KT.out.lt
  have ul := KR.out.lt
  go_wp2_with fail
  refine (CA.out _ B3.out).mono ?_
  rintro e z ⟨hbz, g, cap, sl, vd', vn', rfl, ho, hs⟩
  obtain ⟨da, dc, rfl, hda⟩ := id hs.d
  obtain ⟨na, nc, rfl, hna⟩ := id hs.ns
  have OZ := Lib.hid ho
  clear hda hna ho hs
  clear k0 u0 u1 u2 u3 u4 u5 u6 u7 u8 u9 kl ul CA
  have TN := Lib.hid (three_new z [.slice (some ⟨g, 0, none⟩) t'.length cap] [.int .i64 p.c, .slice da p.d.length dc, .slice na p.ns.length nc, .int .i64 p.s.i, .int .i64 p.s.k, .int .i64 p.s.o, .int .i64 p.s.z, .int .i64 p.s.l, .int .i64 p.s.v] [.int .i64 0, .int .i64 0] 24 35 37)
  go_upto_region 3 with fail
  have gg := hbz.trans (TN.out.1.mono hbz.size)
  have KT5 := Lib.hid (KT.out.up gg)
  have KR5 := Lib.hid (KR.out.up gg)
  have B5 := Lib.hid (B3.out.trans (gg.mono B3.out.size))
  have O5 := Lib.hid (OZ.out.up TN.out.1)
  clear gg hbz KT KR B3
  generalize ((z.alloc (.cells #[.slice (some ⟨g, 0, none⟩) t'.length cap] 24)).alloc (.cells #[.int .i64 p.c, .slice da p.d.length dc, .slice na p.ns.length nc, .int .i64 p.s.i, .int .i64 p.s.k, .int .i64 p.s.o, .int .i64 p.s.z, .int .i64 p.s.l, .int .i64 p.s.v] 35)).alloc (.cells #[.int .i64 0, .int .i64 0] 37) = w5 at *
  generalize z.heap.size + 1 + 1 = n3 at *
  generalize z.heap.size + 1 = n2 at *
  generalize z.heap.size = n1 at *
  have U5 := Lib.hid TN.out.2.1
  have P5 := Lib.hid TN.out.2.2.1
  have F5 := Lib.hid TN.out.2.2.2
  clear TN
  clear OZ
  go_wp2_with fail
  refine (CE.out _ B5.out).mono ?_
  rintro e w6 ⟨rfl, b6⟩
  have B6 := Lib.hid (B5.out.trans (b6.mono B5.out.size))
  have KT6 := Lib.hid (KT5.out.up b6)
  have KR6 := Lib.hid (KR5.out.up b6)
  have U6 := Lib.hid (U5.out.up b6)
  have P6 := Lib.hid (P5.out.up b6)
  have F6 := Lib.hid (F5.out.up b6)
  have O6 := Lib.hid (O5.out.up b6)
  clear b6 KT5 KR5 U5 P5 F5 B5 CE O5
  have f0 := F6.out.c 0 _ rfl
  have fl := F6.out.lt
  have p0 := P6.out.c 0 _ rfl
  have pl := P6.out.lt
  have u0 := KR6.out.c 0 _ rfl
  have ul := KR6.out.lt
  rw [HC.out] at p0
  rw [HK.out] at u0
  have t0 := U6.out.c 0 _ rfl
  have tl := U6.out.lt
  have u3 := KR6.out.c 3 _ rfl
  go_wp2_with fail
  refine (CW.out _ g cap O6.out.fnods B6.out).mono ?_
  rintro e y ⟨hbz, g1, cap1, wa, wc, ra1, rc1, rfl, hf1⟩
  have QZ := Lib.hid hf1
  clear hf1 f0 fl p0 pl u0 ul t0 tl u3 F6 CW
  have TN := Lib.hid (three_new y [.slice (some ⟨g1, 0, none⟩) t2.length cap1] [.int .i64 p2.c, .slice wa p2.d.length wc, .slice ra1 p2.ns.length rc1, .int .i64 p2.s.i, .int .i64 p2.s.k, .int .i64 p2.s.o, .int .i64 p2.s.z, .int .i64 p2.s.l, .int .i64 p2.s.v] [.int .i64 0, .int .i64 0] 24 35 37)
  go_upto_region 8 with fail
  have gg := hbz.trans (TN.out.1.mono hbz.size)
  have B7 := Lib.hid (B6.out.trans (gg.mono B6.out.size))
  have KR7 := Lib.hid (KR6.out.up gg)
  have U7 := Lib.hid (U6.out.up gg)
  have P7 := Lib.hid (P6.out.up gg)
  have O7 := Lib.hid (O6.out.up gg)
  have QW7 := Lib.hid (QZ.out.up TN.out.1)
  clear QZ KT6
  clear gg hbz B6 KR6 U6 P6 O6
  generalize ((y.alloc (.cells #[.slice (some ⟨g1, 0, none⟩) t2.length cap1] 24)).alloc (.cells #[.int .i64 p2.c, .slice wa p2.d.length wc, .slice ra1 p2.ns.length rc1, .int .i64 p2.s.i, .int .i64 p2.s.k, .int .i64 p2.s.o, .int .i64 p2.s.z, .int .i64 p2.s.l, .int .i64 p2.s.v] 35)).alloc (.cells #[.int .i64 0, .int .i64 0] 37) = w7 at *
  generalize y.heap.size + 1 + 1 = m3 at *
  generalize y.heap.size + 1 = m2 at *
  generalize y.heap.size = m1 at *
  have UA7 := Lib.hid TN.out.2.1
  have PA7 := Lib.hid TN.out.2.2.1
  have FA7 := Lib.hid TN.out.2.2.2
  clear TN
  have t0 := UA7.out.c 0 _ rfl
  have tl := UA7.out.lt
  have u2 := KR7.out.c 2 _ rfl
  have ul := KR7.out.lt
  have hb1 : ¬ (200 : Int) < (b.length : Int) := by have := HLB.out; omega
  go_wp2_with fail
  refine (CR.out _ g1 cap1 QW7.out B7.out).mono ?_
  rintro e y ⟨hbz, g2, cap2, xa, xc, ra2, rc2, rfl, hdat⟩
  have QZ := Lib.hid hdat
  clear hdat t0 tl u2 ul hb1 CR
  have TN := Lib.hid (three_new y [.slice (some ⟨g2, 0, none⟩) t2.length cap2] [.int .i64 0, .slice xa dataL.length xc, .slice ra2 0 rc2, .int .i64 0, .int .i64 0, .int .i64 0, .int .i64 0, .int .i64 0, .int .i64 0] [.int .i64 0, .int .i64 0] 24 35 37)
  go_upto_region 11 with fail
  have gg := hbz.trans (TN.out.1.mono hbz.size)
  have B8 := Lib.hid (B7.out.trans (gg.mono B7.out.size))
  have KR8 := Lib.hid (KR7.out.up gg)
  have U8 := Lib.hid (U7.out.up gg)
  have P8 := Lib.hid (P7.out.up gg)
  have O8 := Lib.hid (O7.out.up gg)
  have PA8 := Lib.hid (PA7.out.up gg)
  have FA8 := Lib.hid (FA7.out.up gg)
  have QD8 := Lib.hid (QZ.out.up TN.out.1)
  clear QZ UA7 QW7
  clear gg hbz B7 KR7 U7 P7 O7 PA7 FA7
  generalize ((y.alloc (.cells #[.slice (some ⟨g2, 0, none⟩) t2.length cap2] 24)).alloc (.cells #[.int .i64 0, .slice xa dataL.length xc, .slice ra2 0 rc2, .int .i64 0, .int .i64 0, .int .i64 0, .int .i64 0, .int .i64 0, .int .i64 0] 35)).alloc (.cells #[.int .i64 0, .int .i64 0] 37) = w8 at *
  generalize y.heap.size + 1 + 1 = i3 at *
  generalize y.heap.size + 1 = i2 at *
  generalize y.heap.size = i1 at *
  have PB8 := Lib.hid TN.out.2.2.1
  have FB8 := Lib.hid TN.out.2.2.2
  clear TN
  have t0 := U8.out.c 0 _ rfl
  have tl := U8.out.lt
  have u3 := KR8.out.c 3 _ rfl
  have ul := KR8.out.lt
  go_wp2_with fail
  refine (CD.out _ g cap O8.out.fnods B8.out).mono ?_
  rintro e y ⟨hbz, g3, cap3, oa, oc, ra3, rc3, rfl, hf3⟩
  have QZ := Lib.hid hf3
  clear hf3 t0 tl u3 ul CD
  have TN := Lib.hid (three_new y [.slice (some ⟨g3, 0, none⟩) t3.length cap3] [.int .i64 0, .slice oa p3.d.length oc, .slice ra3 p3.ns.length rc3, .int .i64 p3.s.i, .int .i64 p3.s.k, .int .i64 p3.s.o, .int .i64 p3.s.z, .int .i64 p3.s.l, .int .i64 p3.s.v] [.int .i64 0, .int .i64 0] 24 35 37)
  go_upto_region 12 with fail
  have gg := hbz.trans (TN.out.1.mono hbz.size)
  have B9 := Lib.hid (B8.out.trans (gg.mono B8.out.size))
  have KR9 := Lib.hid (KR8.out.up gg)
  have P9 := Lib.hid (P8.out.up gg)
  have PA9 := Lib.hid (PA8.out.up gg)
  have FA9 := Lib.hid (FA8.out.up gg)
  have PB9 := Lib.hid (PB8.out.up gg)
  have FB9 := Lib.hid (FB8.out.up gg)
  have QD9 := Lib.hid (QD8.out.up gg)
  have QY9 := Lib.hid (QZ.out.up TN.out.1)
  clear QZ U8 O8
  clear gg hbz B8 KR8 P8 PA8 FA8 PB8 FB8 QD8
  generalize ((y.alloc (.cells #[.slice (some ⟨g3, 0, none⟩) t3.length cap3] 24)).alloc (.cells #[.int .i64 0, .slice oa p3.d.length oc, .slice ra3 p3.ns.length rc3, .int .i64 p3.s.i, .int .i64 p3.s.k, .int .i64 p3.s.o, .int .i64 p3.s.z, .int .i64 p3.s.l, .int .i64 p3.s.v] 35)).alloc (.cells #[.int .i64 0, .int .i64 0] 37) = w9 at *
  generalize y.heap.size + 1 + 1 = j3 at *
  generalize y.heap.size + 1 = j2 at *
  generalize y.heap.size = j1 at *
  have UC9 := Lib.hid TN.out.2.1
  have PC9 := Lib.hid TN.out.2.2.1
  have FC9 := Lib.hid TN.out.2.2.2
  clear TN
  have t0 := UC9.out.c 0 _ rfl
  have tl := UC9.out.lt
  have u2 := KR9.out.c 2 _ rfl
  have ul := KR9.out.lt
  go_wp2_with fail
  refine (CL.out _ g3 cap3 QY9.out B9.out).mono ?_
  rintro e y ⟨rfl, hbz⟩
  clear t0 tl u2 ul CL UC9 QY9
  have LN := Lib.hid (Blk.new y [.int .i64 0, .int .i64 li] 37)
  have gg := hbz.trans ((Below.refl y.heap.size y).alloc (Nat.le_refl _) (.cells #[.int .i64 0, .int .i64 li] 37) |>.mono hbz.size)
  go_upto_region 13 with fail
  have B := Lib.hid (B9.out.trans (gg.mono B9.out.size))
  have P := Lib.hid (P9.out.up gg)
  have PA := Lib.hid (PA9.out.up gg)
  have FA := Lib.hid (FA9.out.up gg)
  have PB := Lib.hid (PB9.out.up gg)
  have FB := Lib.hid (FB9.out.up gg)
  have PC := Lib.hid (PC9.out.up gg)
  have FC := Lib.hid (FC9.out.up gg)
  have QD := Lib.hid (QD9.out.up gg)
  clear gg hbz B9 P9 PA9 FA9 PB9 FB9 PC9 FC9 QD9 KR9
  generalize y.alloc (.cells #[.int .i64 0, .int .i64 li] 37) = wx at *
  generalize y.heap.size = lx at *
  have l0 := LN.out.c 0 _ rfl
  have ll := LN.out.lt
  have ga := FA.out.c 0 _ rfl
  have gal := FA.out.lt
  have gb := FB.out.c 0 _ rfl
  have gbl := FB.out.lt
  have gc := FC.out.c 0 _ rfl
  have gcl := FC.out.lt
  have z0 := PC.out.c 0 _ rfl
  have zl := PC.out.lt
  have s3 := P.out.c 3 _ rfl
  have sl3 := P.out.lt
  rw [HSI.out] at s3
  have a0 := PA.out.c 0 _ rfl
  have al := PA.out.lt
  have b1 := PB.out.c 1 _ rfl
  have bl := PB.out.lt
  have QB := Lib.hid (HYB.out.up B.out)
  by_cases hpc : p2.c = 0
  · have hd := HWD.out hpc
    subst hd
    rw [hpc] at a0
    have kc1 := byts_str QD.out
    have kc2 := byts_str QB.out
    clear HWD HWC HYB hpc
    generalize toB dataL = sd at *
    go_wp2
    go_ret
    exact ⟨rfl, B.out⟩
  · rw [HWC.out.resolve_left hpc] at a0
    clear HWD HWC hpc
    go_wp2
    go_ret
    exact ⟨rfl, B.out⟩

theorem lawLnk_any (a : Option Addr) (c : Nat) (t : FT) (r : Rq) (vd va : Value) (b : List UInt8) (vb : Value) (w : World) (gm : GM w) (h : FNods w w.heap.size a c t) (hr : RqS w w.heap.size vd va r) (hy : Byts w w.heap.size vb b) :
    Calls Tryz.prog 8 #[.agg #[.slice a t.length c], rqV r vd va, vb] w fun e w' => e = .returned (.bool true) ∧ Below w.heap.size w w' := by
  by_cases hh : (valT (tr t)).1 = 0 ∧ rqC (rqZ r) = 0
  · by_cases hc : (applyF t (rqZ r)).2.c ≠ 0 ∨ r.k ≠ 10
    · exact lawLnkErr_any a c t r vd va b vb w gm h hr hy hh.1 hh.2 hc
    · have h1 := Decidable.not_not.1 fun h => hc (.inl h)
      have h2 := Decidable.not_not.1 fun h => hc (.inr h)
      by_cases hlb : b.length ≤ 200
      · exact lawLnkOk_any a c t r vd va b vb w gm h hr hy hh.1 hh.2 h1 h2 hlb
      · exact lawLnkBig_any a c t r vd va b vb w gm h hr hy hh.1 hh.2 h1 h2 hlb
  · exact lawLnkBad_any a c t r vd va b vb w gm h hr hy hh

end Go.Proofs.YtmbbmmnpkdfecaaGreatDoor
