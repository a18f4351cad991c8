/- What a law of package memfs or of its neighbours needs, at the translation of this seat.
   Condition: as each theorem states; this text: MfLawRaw. -/
import Derived.Test.YtmbbmmnpkdfecaaGreatDoorMrB
import Derived.WalkSmall

set_option linter.all false

/- The law MemfsReadAfterWrite returns true at every tree and request. Conditions: the tree and the request lie in memory as they read; the door's variable lies in memory. -/

set_option linter.all false
namespace Go.Proofs.YtmbbmmnpkdfecaaGreatDoor
open Go.RowKit

set_option maxRecDepth 100000 in
set_option maxHeartbeats 6400000 in
theorem lawRawBad_any (a : Option Addr) (c : Nat) (t : FT) (r : Rq) (vd va : Value) (w : World) (gm : GM w) (h : FNods w w.heap.size a c t) (hr : RqS w w.heap.size vd va r) (hbad : ¬ ((valT (tr t)).1 = 0 ∧ rqC (rqZ r) = 0)) :
    Calls Tryz.prog 6 #[.agg #[.slice a t.length c], rqV r vd va] w fun e w' => e = .returned (.bool true) ∧ Below w.heap.size w w' := by
  obtain ⟨qa, qc, rfl, hqd⟩ := id hr.d
  obtain ⟨pa, pc, rfl, hpd⟩ := id hr.ac
  clear hqd hpd
  have T := Lib.hid (two_new w [.slice a t.length c] (rqL r (.slice qa r.d.length qc) (.slice pa r.ac.length pc)) 24 30)
  unfold rqL at T
  have hsupV : rqV (rqZ r) (.slice qa r.d.length qc) (.slice pa r.ac.length pc) = .agg #[.int .i64 r.k, .int .i64 0, .string r.p, .string r.t, .int .i64 r.off, .int .i64 r.sz, .slice qa r.d.length qc, .slice pa r.ac.length pc, .string r.a.n, .string r.a.v] := rfl
  have CE := Lib.hid (fun W (hb : Below w.heap.size w W) => example_any W (gm.below hb))
  have CA := Lib.hid (fun W (hb : Below w.heap.size w W) => (applyFault_any a c t (rqZ r) (.slice qa r.d.length qc) (.slice pa r.ac.length pc) W (gm.below hb) (h.up hb) (hr.up hb).zero hbad).2)
  have hne := (applyFault_any a c t (rqZ r) (.slice qa r.d.length qc) (.slice pa r.ac.length pc) w gm h hr.zero hbad).1
  clear gm h hr hbad
  generalize (fltF t (rqZ r)).1 = fc at *
  generalize (fltF t (rqZ r)).2 = fi at *
  have hcc : (fc != 0) = true := by simpa using hne
  have hcd : (fc == 0) = false := by simpa using hne
  clear hne
  unfold rpV at CA
  rw [hsupV] at CA
  clear hsupV
  unfold rqV at *
  go_enter Tryz.func6, Tryz.ntmps6
  go_upto_region 1 with fail
  have hNe : w.heap.size ≠ w.heap.size + 1 := by omega
  have hNw : w.heap.size ≤ w.heap.size + 1 := by omega
  generalize (w.alloc (.cells #[.slice a t.length c] 24)).alloc (.cells #[.int .i64 r.k, .int .i64 r.u, .string r.p, .string r.t, .int .i64 r.off, .int .i64 r.sz, .slice qa r.d.length qc, .slice pa r.ac.length pc, .string r.a.n, .string r.a.v] 30) = w2 at *
  generalize w.heap.size + 1 = N at *
  obtain ⟨tb, tt, tr'⟩ := T.out
  have B2 := Lib.hid tb
  have KT2 := Lib.hid tt
  have KR2 := Lib.hid tr'
  clear tb tt tr' T
  have u1 := KR2.out.c 1 _ rfl
  have u1f := KR2.out.f 1 (by simp)
  have ul := KR2.out.lt
  go_upto_region 2 with fail
  have KR := Lib.hid (show Blk (w2.setCell ⟨N, 1, none⟩ (.int .i64 0)) N [.int .i64 r.k, .int .i64 0, .string r.p, .string r.t, .int .i64 r.off, .int .i64 r.sz, .slice qa r.d.length qc, .slice pa r.ac.length pc, .string r.a.n, .string r.a.v] from KR2.out.put 1 (.int .i64 0) (by simp))
  have KT := Lib.hid (KT2.out.far (p := ⟨N, 1, none⟩) hNe (.int .i64 0))
  have B3 := Lib.hid (B2.out.setCell (p := ⟨N, 1, none⟩) hNw (.int .i64 0))
  clear u1 u1f ul KT2 KR2 B2 hNe hNw
  generalize w2.setCell ⟨N, 1, none⟩ (.int .i64 0) = w3 at *
  have k0 := KT.out.c 0 _ rfl
  have u0 := KR.out.c 0 _ rfl
  have u1 := KR.out.c 1 _ rfl
  have u2 := KR.out.c 2 _ rfl
  have u3 := KR.out.c 3 _ rfl
  have u4 := KR.out.c 4 _ rfl
  have u5 := KR.out.c 5 _ rfl
  have u6 := KR.out.c 6 _ rfl
  have u7 := KR.out.c 7 _ rfl
  have u8 := KR.out.c 8 _ rfl
  have u9 := KR.out.c 9 _ rfl
  have kl := KT.out.lt
  have ul := KR.out.lt
  go_wp2_with fail
  refine (CA.out _ B3.out).mono ?_
  rintro e z ⟨hbz, rfl⟩
  clear k0 u0 u1 u2 u3 u4 u5 u6 u7 u8 u9 kl ul CA
  have TN := Lib.hid (three_new z [.slice none 0 0] [.int .i64 0, .slice none 0 0, .slice none 0 0, .int .i64 0, .int .i64 0, .int .i64 0, .int .i64 0, .int .i64 0, .int .i64 0] [.int .i64 fc, .int .i64 fi] 24 35 37)
  go_upto_region 3 with fail
  have gg := hbz.trans (TN.out.1.mono hbz.size)
  have KT5 := Lib.hid (KT.out.up gg)
  have KR5 := Lib.hid (KR.out.up gg)
  have B5 := Lib.hid (B3.out.trans (gg.mono B3.out.size))
  clear gg hbz KT KR B3
  generalize ((z.alloc (.cells #[.slice none 0 0] 24)).alloc (.cells #[.int .i64 0, .slice none 0 0, .slice none 0 0, .int .i64 0, .int .i64 0, .int .i64 0, .int .i64 0, .int .i64 0, .int .i64 0] 35)).alloc (.cells #[.int .i64 fc, .int .i64 fi] 37) = w5 at *
  generalize z.heap.size + 1 + 1 = n3 at *
  generalize z.heap.size + 1 = n2 at *
  generalize z.heap.size = n1 at *
  have U5 := Lib.hid TN.out.2.1
  have P5 := Lib.hid TN.out.2.2.1
  have F5 := Lib.hid TN.out.2.2.2
  clear TN
  go_wp2_with fail
  refine (CE.out _ B5.out).mono ?_
  rintro e w6 ⟨rfl, b6⟩
  have B6 := Lib.hid (B5.out.trans (b6.mono B5.out.size))
  have KT6 := Lib.hid (KT5.out.up b6)
  have KR6 := Lib.hid (KR5.out.up b6)
  have U6 := Lib.hid (U5.out.up b6)
  have P6 := Lib.hid (P5.out.up b6)
  have F6 := Lib.hid (F5.out.up b6)
  clear b6 KT5 KR5 U5 P5 F5 B5 CE
  have f0 := F6.out.c 0 _ rfl
  have fl := F6.out.lt
  have p0 := P6.out.c 0 _ rfl
  have pl := P6.out.lt
  have u0 := KR6.out.c 0 _ rfl
  have ul := KR6.out.lt
  have p1 := P6.out.c 1 _ rfl
  have p2 := P6.out.c 2 _ rfl
  have p3 := P6.out.c 3 _ rfl
  have p4 := P6.out.c 4 _ rfl
  have p5 := P6.out.c 5 _ rfl
  have p6 := P6.out.c 6 _ rfl
  have p7 := P6.out.c 7 _ rfl
  have p8 := P6.out.c 8 _ rfl
  go_wp2_with fail
  refine (isEmptyNil_any _).mono ?_
  rintro e w7 ⟨rfl, b7⟩
  go_wp2
  go_ret
  exact ⟨rfl, B6.out.trans (b7.mono B6.out.size)⟩

set_option maxRecDepth 100000 in
set_option maxHeartbeats 6400000 in
theorem lawRawErr_any (a : Option Addr) (c : Nat) (t : FT) (r : Rq) (vd va : Value) (w : World) (gm : GM w) (h : FNods w w.heap.size a c t) (hr : RqS w w.heap.size vd va r) (hv : (valT (tr t)).1 = 0) (hq : rqC (rqZ r) = 0) (hc : (applyF t (rqZ r)).2.c ≠ 0 ∨ r.k ≠ 4) :
    Calls Tryz.prog 6 #[.agg #[.slice a t.length c], rqV r vd va] w fun e w' => e = .returned (.bool true) ∧ Below w.heap.size w w' := by
  obtain ⟨qa, qc, rfl, hqd⟩ := id hr.d
  obtain ⟨pa, pc, rfl, hpd⟩ := id hr.ac
  clear hqd hpd
  have T := Lib.hid (two_new w [.slice a t.length c] (rqL r (.slice qa r.d.length qc) (.slice pa r.ac.length pc)) 24 30)
  unfold rqL at T
  have hsupV : rqV (rqZ r) (.slice qa r.d.length qc) (.slice pa r.ac.length pc) = .agg #[.int .i64 r.k, .int .i64 0, .string r.p, .string r.t, .int .i64 r.off, .int .i64 r.sz, .slice qa r.d.length qc, .slice pa r.ac.length pc, .string r.a.n, .string r.a.v] := rfl
  have CE := Lib.hid (fun W (hb : Below w.heap.size w W) => example_any W (gm.below hb))
  have CA := Lib.hid (fun W (hb : Below w.heap.size w W) => applyOk_any a c t (rqZ r) (.slice qa r.d.length qc) (.slice pa r.ac.length pc) W (gm.below hb) (h.up hb) (hr.up hb).zero hv hq)
  clear gm h hr hv hq
  generalize applyF t (rqZ r) = AF at *
  obtain ⟨t', p⟩ := AF
  simp only at CA hc
  have HC := Lib.hid hc
  clear hc
  unfold rpV at CA
  rw [hsupV] at CA
  clear hsupV
  unfold rqV at *
  go_enter Tryz.func6, Tryz.ntmps6
  go_upto_region 1 with fail
  have hNe : w.heap.size ≠ w.heap.size + 1 := by omega
  have hNw : w.heap.size ≤ w.heap.size + 1 := by omega
  generalize (w.alloc (.cells #[.slice a t.length c] 24)).alloc (.cells #[.int .i64 r.k, .int .i64 r.u, .string r.p, .string r.t, .int .i64 r.off, .int .i64 r.sz, .slice qa r.d.length qc, .slice pa r.ac.length pc, .string r.a.n, .string r.a.v] 30) = w2 at *
  generalize w.heap.size + 1 = N at *
  obtain ⟨tb, tt, tr'⟩ := T.out
  have B2 := Lib.hid tb
  have KT2 := Lib.hid tt
  have KR2 := Lib.hid tr'
  clear tb tt tr' T
  have u1 := KR2.out.c 1 _ rfl
  have u1f := KR2.out.f 1 (by simp)
  have ul := KR2.out.lt
  go_upto_region 2 with fail
  have KR := Lib.hid (show Blk (w2.setCell ⟨N, 1, none⟩ (.int .i64 0)) N [.int .i64 r.k, .int .i64 0, .string r.p, .string r.t, .int .i64 r.off, .int .i64 r.sz, .slice qa r.d.length qc, .slice pa r.ac.length pc, .string r.a.n, .string r.a.v] from KR2.out.put 1 (.int .i64 0) (by simp))
  have KT := Lib.hid (KT2.out.far (p := ⟨N, 1, none⟩) hNe (.int .i64 0))
  have B3 := Lib.hid (B2.out.setCell (p := ⟨N, 1, none⟩) hNw (.int .i64 0))
  clear u1 u1f ul KT2 KR2 B2 hNe hNw
  generalize w2.setCell ⟨N, 1, none⟩ (.int .i64 0) = w3 at *
  have k0 := KT.out.c 0 _ rfl
  have u0 := KR.out.c 0 _ rfl
  have u1 := KR.out.c 1 _ rfl
  have u2 := KR.out.c 2 _ rfl
  have u3 := KR.out.c 3 _ rfl
  have u4 := KR.out.c 4 _ rfl
  have u5 := KR.out.c 5 _ rfl
  have u6 := KR.out.c 6 _ rfl
  have u7 := KR.out.c 7 _ rfl
  have u8 := KR.out.c 8 _ rfl
  have u9 := KR.out.c 9 _ rfl
  have kl := KT.out.lt
  have ul := KR.out.lt
  go_wp2_with fail
  refine (CA.out _ B3.out).mono ?_
  rintro e z ⟨hbz, g, cap, sl, vd', vn', rfl, ho, hs⟩
  obtain ⟨da, dc, rfl, hda⟩ := id hs.d
  obtain ⟨na, nc, rfl, hna⟩ := id hs.ns
  have OZ := Lib.hid ho
  clear hda hna ho hs
  clear k0 u0 u1 u2 u3 u4 u5 u6 u7 u8 u9 kl ul CA
  have TN := Lib.hid (three_new z [.slice (some ⟨g, 0, none⟩) t'.length cap] [.int .i64 p.c, .slice da p.d.length dc, .slice na p.ns.length nc, .int .i64 p.s.i, .int .i64 p.s.k, .int .i64 p.s.o, .int .i64 p.s.z, .int .i64 p.s.l, .int .i64 p.s.v] [.int .i64 0, .int .i64 0] 24 35 37)
  go_upto_region 3 with fail
  have gg := hbz.trans (TN.out.1.mono hbz.size)
  have KT5 := Lib.hid (KT.out.up gg)
  have KR5 := Lib.hid (KR.out.up gg)
  have B5 := Lib.hid (B3.out.trans (gg.mono B3.out.size))
  have O5 := Lib.hid (OZ.out.up TN.out.1)
  clear gg hbz KT KR B3
  generalize ((z.alloc (.cells #[.slice (some ⟨g, 0, none⟩) t'.length cap] 24)).alloc (.cells #[.int .i64 p.c, .slice da p.d.length dc, .slice na p.ns.length nc, .int .i64 p.s.i, .int .i64 p.s.k, .int .i64 p.s.o, .int .i64 p.s.z, .int .i64 p.s.l, .int .i64 p.s.v] 35)).alloc (.cells #[.int .i64 0, .int .i64 0] 37) = w5 at *
  generalize z.heap.size + 1 + 1 = n3 at *
  generalize z.heap.size + 1 = n2 at *
  generalize z.heap.size = n1 at *
  have U5 := Lib.hid TN.out.2.1
  have P5 := Lib.hid TN.out.2.2.1
  have F5 := Lib.hid TN.out.2.2.2
  clear TN
  clear OZ
  go_wp2_with fail
  refine (CE.out _ B5.out).mono ?_
  rintro e w6 ⟨rfl, b6⟩
  have B6 := Lib.hid (B5.out.trans (b6.mono B5.out.size))
  have KT6 := Lib.hid (KT5.out.up b6)
  have KR6 := Lib.hid (KR5.out.up b6)
  have U6 := Lib.hid (U5.out.up b6)
  have P6 := Lib.hid (P5.out.up b6)
  have F6 := Lib.hid (F5.out.up b6)
  have O6 := Lib.hid (O5.out.up b6)
  clear b6 KT5 KR5 U5 P5 F5 B5 CE O5
  have f0 := F6.out.c 0 _ rfl
  have fl := F6.out.lt
  have p0 := P6.out.c 0 _ rfl
  have pl := P6.out.lt
  have u0 := KR6.out.c 0 _ rfl
  have ul := KR6.out.lt
  by_cases hp : p.c = 0
  · rw [hp] at p0
    have hk4 : (r.k != 4) = true := by simpa using HC.out.resolve_left (fun h => h hp)
    clear hp HC
    go_wp2
    go_ret
    exact ⟨rfl, B6.out⟩
  · have hpc : (p.c != 0) = true := by simpa using hp
    clear hp HC
    go_wp2
    go_ret
    exact ⟨rfl, B6.out⟩

set_option maxRecDepth 100000 in
set_option maxHeartbeats 6400000 in
theorem lawRawOk_any (a : Option Addr) (c : Nat) (t : FT) (r : Rq) (vd va : Value) (w : World) (gm : GM w) (h : FNods w w.heap.size a c t) (hr : RqS w w.heap.size vd va r) (hv : (valT (tr t)).1 = 0) (hq : rqC (rqZ r) = 0) (hc : (applyF t (rqZ r)).2.c = 0) (hk : r.k = 4) :
    Calls Tryz.prog 6 #[.agg #[.slice a t.length c], rqV r vd va] w fun e w' => e = .returned (.bool true) ∧ Below w.heap.size w w' := by
  obtain ⟨qa, qc, rfl, hqd⟩ := id hr.d
  obtain ⟨pa, pc, rfl, hpd⟩ := id hr.ac
  clear hqd hpd
  have T := Lib.hid (two_new w [.slice a t.length c] (rqL r (.slice qa r.d.length qc) (.slice pa r.ac.length pc)) 24 30)
  unfold rqL at T
  have hsupV : rqV (rqZ r) (.slice qa r.d.length qc) (.slice pa r.ac.length pc) = .agg #[.int .i64 r.k, .int .i64 0, .string r.p, .string r.t, .int .i64 r.off, .int .i64 r.sz, .slice qa r.d.length qc, .slice pa r.ac.length pc, .string r.a.n, .string r.a.v] := rfl
  have CE := Lib.hid (fun W (hb : Below w.heap.size w W) => example_any W (gm.below hb))
  have CA := Lib.hid (fun W (hb : Below w.heap.size w W) => applyOk_any a c t (rqZ r) (.slice qa r.d.length qc) (.slice pa r.ac.length pc) W (gm.below hb) (h.up hb) (hr.up hb).zero hv hq)
  obtain ⟨n, m, hn, hm, hr1, hr2, hd, hfit, hz⟩ := write_at (t := t) (r := rqZ r) hv hk rfl hq hc
  change reachF t 0 r.p 2 2 = _ at hr1
  change reachF _ 0 r.p 2 2 = _ at hr2
  change r.d.length = 0 ∨ r.off.toNat + r.d.length ≤ m at hfit
  have G := rqG_of hq
  have hoff : 0 ≤ r.off ∧ r.off ≤ 1000000 := by
    have := G.off
    unfold offB at this
    have h2 : decide (0 ≤ r.off ∧ r.off ≤ 1000000) = true := this
    exact of_decide_eq_true h2
  have hld : r.d.length ≤ 200 := G.d
  have hps := hr.p
  have HRD := Lib.hid hr.d
  have NF := Lib.hid (now_facts (old := (ino t n).d) (r := rqZ r) (m := m) hfit hm hoff.1)
  have RO := Lib.hid (read_own (old := (ino t n).d) (r := rqZ r) (n := m) hfit)
  have HV' := Lib.hid (apply_valid hv (rqZ r))
  have C1 := Lib.hid (fun W (hb : Below w.heap.size w W) => applyRead_any a c t r.p n 0 1000 W (gm.below hb) (h.up hb) hv G.p hps (by omega) (by omega) (by omega) (by omega) hr1)
  have C2 := Lib.hid (fun W g cap (h2 : FNods W W.heap.size (some ⟨g, 0, none⟩) cap (applyF t (rqZ r)).1) (hb : Below w.heap.size w W) => applyRead_any (some ⟨g, 0, none⟩) cap (applyF t (rqZ r)).1 r.p n 0 1000 W (gm.below hb) h2 HV'.out G.p hps (by omega) (by omega) (by omega) (by omega) hr2)
  have C3 := Lib.hid (fun W g cap (h2 : FNods W W.heap.size (some ⟨g, 0, none⟩) cap (applyF t (rqZ r)).1) (hb : Below w.heap.size w W) => applyRead_any (some ⟨g, 0, none⟩) cap (applyF t (rqZ r)).1 r.p n r.off (r.d.length : Int) W (gm.below hb) h2 HV'.out G.p hps hoff.1 hoff.2 (by omega) (by omega) hr2)
  rw [hd] at C2 C3
  rw [show readD (dataF (ino t n).d (rqZ r) m) r.off (r.d.length : Int) = r.d from RO.out] at C3
  have hoz : (rqZ r).off = r.off := rfl
  have hdz : (rqZ r).d = r.d := rfl
  rw [hoz, hdz] at NF
  clear HV' RO gm h hv hq hr hr1 hr2 hd hn hoz hdz G hps
  have HFIT := Lib.hid hfit
  generalize readD (dataF (ino t n).d (rqZ r) m) 0 1000 = nowL at *
  generalize readD (ino t n).d 0 1000 = wasL at *
  generalize applyF t (rqZ r) = AF at *
  obtain ⟨t', p⟩ := AF
  simp only at CA hc C1 C2 C3 hz
  have HC := Lib.hid hc
  have HZ := Lib.hid hz
  have HOFF := Lib.hid hoff
  have HLD := Lib.hid hld
  have HM := Lib.hid hm
  have HK := Lib.hid hk
  clear hc hz hoff hld hm hk hfit
  unfold rpV at CA
  rw [hsupV] at CA
  clear hsupV
  unfold rqV at *
  go_enter Tryz.func6, Tryz.ntmps6
  go_upto_region 1 with fail
  have hNe : w.heap.size ≠ w.heap.size + 1 := by omega
  have hNw : w.heap.size ≤ w.heap.size + 1 := by omega
  generalize (w.alloc (.cells #[.slice a t.length c] 24)).alloc (.cells #[.int .i64 r.k, .int .i64 r.u, .string r.p, .string r.t, .int .i64 r.off, .int .i64 r.sz, .slice qa r.d.length qc, .slice pa r.ac.length pc, .string r.a.n, .string r.a.v] 30) = w2 at *
  generalize w.heap.size + 1 = N at *
  obtain ⟨tb, tt, tr'⟩ := T.out
  have B2 := Lib.hid tb
  have KT2 := Lib.hid tt
  have KR2 := Lib.hid tr'
  clear tb tt tr' T
  have u1 := KR2.out.c 1 _ rfl
  have u1f := KR2.out.f 1 (by simp)
  have ul := KR2.out.lt
  go_upto_region 2 with fail
  have KR := Lib.hid (show Blk (w2.setCell ⟨N, 1, none⟩ (.int .i64 0)) N [.int .i64 r.k, .int .i64 0, .string r.p, .string r.t, .int .i64 r.off, .int .i64 r.sz, .slice qa r.d.length qc, .slice pa r.ac.length pc, .string r.a.n, .string r.a.v] from KR2.out.put 1 (.int .i64 0) (by simp))
  have KT := Lib.hid (KT2.out.far (p := ⟨N, 1, none⟩) hNe (.int .i64 0))
  have B3 := Lib.hid (B2.out.setCell (p := ⟨N, 1, none⟩) hNw (.int .i64 0))
  clear u1 u1f ul KT2 KR2 B2 hNe hNw
  generalize w2.setCell ⟨N, 1, none⟩ (.int .i64 0) = w3 at *
  have k0 := KT.out.c 0 _ rfl
  have u0 := KR.out.c 0 _ rfl
  have u1 := KR.out.c 1 _ rfl
  have u2 := KR.out.c 2 _ rfl
  have u3 := KR.out.c 3 _ rfl
  have u4 := KR.out.c 4 _ rfl
  have u5 := KR.out.c 5 _ rfl
  have u6 := KR.out.c 6 _ rfl
  have u7 := KR.out.c 7 _ rfl
  have u8 := KR.out.c 8 _ rfl
  have u9 := KR.out.c 9 _ rfl
  have kl := KT.out.lt
  have ul := KR.out.lt
  go_wp2_with fail
  refine (CA.out _ B3.out).mono ?_
  rintro e z ⟨hbz, g, cap, sl, vd', vn', rfl, ho, hs⟩
  obtain ⟨da, dc, rfl, hda⟩ := id hs.d
  obtain ⟨na, nc, rfl, hna⟩ := id hs.ns
  have OZ := Lib.hid ho
  clear hda hna ho hs
  clear k0 u0 u1 u2 u3 u4 u5 u6 u7 u8 u9 kl ul CA
  have TN := Lib.hid (three_new z [.slice (some ⟨g, 0, none⟩) t'.length cap] [.int .i64 p.c, .slice da p.d.length dc, .slice na p.ns.length nc, .int .i64 p.s.i, .int .i64 p.s.k, .int .i64 p.s.o, .int .i64 p.s.z, .int .i64 p.s.l, .int .i64 p.s.v] [.int .i64 0, .int .i64 0] 24 35 37)
  go_upto_region 3 with fail
  have gg := hbz.trans (TN.out.1.mono hbz.size)
  have KT5 := Lib.hid (KT.out.up gg)
  have KR5 := Lib.hid (KR.out.up gg)
  have B5 := Lib.hid (B3.out.trans (gg.mono B3.out.size))
  have O5 := Lib.hid (OZ.out.up TN.out.1)
  clear gg hbz KT KR B3
  generalize ((z.alloc (.cells #[.slice (some ⟨g, 0, none⟩) t'.length cap] 24)).alloc (.cells #[.int .i64 p.c, .slice da p.d.length dc, .slice na p.ns.length nc, .int .i64 p.s.i, .int .i64 p.s.k, .int .i64 p.s.o, .int .i64 p.s.z, .int .i64 p.s.l, .int .i64 p.s.v] 35)).alloc (.cells #[.int .i64 0, .int .i64 0] 37) = w5 at *
  generalize z.heap.size + 1 + 1 = n3 at *
  generalize z.heap.size + 1 = n2 at *
  generalize z.heap.size = n1 at *
  have U5 := Lib.hid TN.out.2.1
  have P5 := Lib.hid TN.out.2.2.1
  have F5 := Lib.hid TN.out.2.2.2
  clear TN
  clear OZ
  go_wp2_with fail
  refine (CE.out _ B5.out).mono ?_
  rintro e w6 ⟨rfl, b6⟩
  have B6 := Lib.hid (B5.out.trans (b6.mono B5.out.size))
  have KT6 := Lib.hid (KT5.out.up b6)
  have KR6 := Lib.hid (KR5.out.up b6)
  have U6 := Lib.hid (U5.out.up b6)
  have P6 := Lib.hid (P5.out.up b6)
  have F6 := Lib.hid (F5.out.up b6)
  have O6 := Lib.hid (O5.out.up b6)
  clear b6 KT5 KR5 U5 P5 F5 B5 CE O5
  have f0 := F6.out.c 0 _ rfl
  have fl := F6.out.lt
  have p0 := P6.out.c 0 _ rfl
  have pl := P6.out.lt
  have u0 := KR6.out.c 0 _ rfl
  have ul := KR6.out.lt
  rw [HC.out] at p0
  rw [HK.out] at u0
  have k0 := KT6.out.c 0 _ rfl
  have kl := KT6.out.lt
  have u2 := KR6.out.c 2 _ rfl
  go_wp2_with fail
  refine (C1.out _ B6.out).mono ?_
  rintro e y ⟨hbz, g1, cap1, wa, wc, ra1, rc1, rfl, hwas⟩
  have QZ := Lib.hid hwas
  clear hwas f0 fl p0 pl u0 ul k0 kl u2 F6 C1
  have TN := Lib.hid (three_new y [.slice (some ⟨g1, 0, none⟩) t.length cap1] [.int .i64 0, .slice wa wasL.length wc, .slice ra1 0 rc1, .int .i64 0, .int .i64 0, .int .i64 0, .int .i64 0, .int .i64 0, .int .i64 0] [.int .i64 0, .int .i64 0] 24 35 37)
  go_upto_region 8 with fail
  have gg := hbz.trans (TN.out.1.mono hbz.size)
  have B7 := Lib.hid (B6.out.trans (gg.mono B6.out.size))
  have KT7 := Lib.hid (KT6.out.up gg)
  have KR7 := Lib.hid (KR6.out.up gg)
  have U7 := Lib.hid (U6.out.up gg)
  have P7 := Lib.hid (P6.out.up gg)
  have O7 := Lib.hid (O6.out.up gg)
  have QW7 := Lib.hid (QZ.out.up TN.out.1)
  clear QZ
  clear gg hbz B6 KT6 KR6 U6 P6 O6
  generalize ((y.alloc (.cells #[.slice (some ⟨g1, 0, none⟩) t.length cap1] 24)).alloc (.cells #[.int .i64 0, .slice wa wasL.length wc, .slice ra1 0 rc1, .int .i64 0, .int .i64 0, .int .i64 0, .int .i64 0, .int .i64 0, .int .i64 0] 35)).alloc (.cells #[.int .i64 0, .int .i64 0] 37) = w7 at *
  generalize y.heap.size + 1 + 1 = m3 at *
  generalize y.heap.size + 1 = m2 at *
  generalize y.heap.size = m1 at *
  have PA7 := Lib.hid TN.out.2.2.1
  have FA7 := Lib.hid TN.out.2.2.2
  clear TN
  have t0 := U7.out.c 0 _ rfl
  have tl := U7.out.lt
  have u2 := KR7.out.c 2 _ rfl
  have ul := KR7.out.lt
  go_wp2_with fail
  refine (C2.out _ g cap O7.out.fnods B7.out).mono ?_
  rintro e y ⟨hbz, g2, cap2, xa, xc, ra2, rc2, rfl, hnow⟩
  have QZ := Lib.hid hnow
  clear hnow t0 tl u2 ul C2
  have TN := Lib.hid (three_new y [.slice (some ⟨g2, 0, none⟩) t'.length cap2] [.int .i64 0, .slice xa nowL.length xc, .slice ra2 0 rc2, .int .i64 0, .int .i64 0, .int .i64 0, .int .i64 0, .int .i64 0, .int .i64 0] [.int .i64 0, .int .i64 0] 24 35 37)
  go_upto_region 9 with fail
  have gg := hbz.trans (TN.out.1.mono hbz.size)
  have B8 := Lib.hid (B7.out.trans (gg.mono B7.out.size))
  have KR8 := Lib.hid (KR7.out.up gg)
  have U8 := Lib.hid (U7.out.up gg)
  have P8 := Lib.hid (P7.out.up gg)
  have O8 := Lib.hid (O7.out.up gg)
  have PA8 := Lib.hid (PA7.out.up gg)
  have FA8 := Lib.hid (FA7.out.up gg)
  have QW8 := Lib.hid (QW7.out.up gg)
  have QN8 := Lib.hid (QZ.out.up TN.out.1)
  clear QZ KT7
  clear gg hbz B7 KR7 U7 P7 O7 PA7 FA7 QW7
  generalize ((y.alloc (.cells #[.slice (some ⟨g2, 0, none⟩) t'.length cap2] 24)).alloc (.cells #[.int .i64 0, .slice xa nowL.length xc, .slice ra2 0 rc2, .int .i64 0, .int .i64 0, .int .i64 0, .int .i64 0, .int .i64 0, .int .i64 0] 35)).alloc (.cells #[.int .i64 0, .int .i64 0] 37) = w8 at *
  generalize y.heap.size + 1 + 1 = i3 at *
  generalize y.heap.size + 1 = i2 at *
  generalize y.heap.size = i1 at *
  have PB8 := Lib.hid TN.out.2.2.1
  have FB8 := Lib.hid TN.out.2.2.2
  clear TN
  have t0 := U8.out.c 0 _ rfl
  have tl := U8.out.lt
  have u2 := KR8.out.c 2 _ rfl
  have u4 := KR8.out.c 4 _ rfl
  have u6 := KR8.out.c 6 _ rfl
  have ul := KR8.out.lt
  go_wp2_with fail
  refine (C3.out _ g cap O8.out.fnods B8.out).mono ?_
  rintro e y ⟨hbz, g3, cap3, oa, oc, ra3, rc3, rfl, hown⟩
  have QZ := Lib.hid hown
  clear hown t0 tl u2 u4 u6 ul C3
  have TN := Lib.hid (three_new y [.slice (some ⟨g3, 0, none⟩) t'.length cap3] [.int .i64 0, .slice oa r.d.length oc, .slice ra3 0 rc3, .int .i64 0, .int .i64 0, .int .i64 0, .int .i64 0, .int .i64 0, .int .i64 0] [.int .i64 0, .int .i64 0] 24 35 37)
  go_upto_region 10 with fail
  have gg := hbz.trans (TN.out.1.mono hbz.size)
  have B9 := Lib.hid (B8.out.trans (gg.mono B8.out.size))
  have KR9 := Lib.hid (KR8.out.up gg)
  have P9 := Lib.hid (P8.out.up gg)
  have PA9 := Lib.hid (PA8.out.up gg)
  have FA9 := Lib.hid (FA8.out.up gg)
  have PB9 := Lib.hid (PB8.out.up gg)
  have FB9 := Lib.hid (FB8.out.up gg)
  have QW9 := Lib.hid (QW8.out.up gg)
  have QN9 := Lib.hid (QN8.out.up gg)
  have QO9 := Lib.hid (QZ.out.up TN.out.1)
  clear QZ U8 O8
  clear gg hbz B8 KR8 P8 PA8 FA8 PB8 FB8 QW8 QN8
  generalize ((y.alloc (.cells #[.slice (some ⟨g3, 0, none⟩) t'.length cap3] 24)).alloc (.cells #[.int .i64 0, .slice oa r.d.length oc, .slice ra3 0 rc3, .int .i64 0, .int .i64 0, .int .i64 0, .int .i64 0, .int .i64 0, .int .i64 0] 35)).alloc (.cells #[.int .i64 0, .int .i64 0] 37) = w9 at *
  generalize y.heap.size + 1 + 1 = j3 at *
  generalize y.heap.size + 1 = j2 at *
  generalize y.heap.size = j1 at *
  have PC9 := Lib.hid TN.out.2.2.1
  have FC9 := Lib.hid TN.out.2.2.2
  clear TN
  have HL := Lib.hid NF.out.1
  have HE := Lib.hid NF.out.2
  clear NF
  have QD9 := Lib.hid (HRD.out.up B9.out)
  have kc1 := byts_str QO9.out
  have kc2 := byts_str QD9.out
  clear HRD QD9 QO9
  have ga := FA9.out.c 0 _ rfl
  have gal := FA9.out.lt
  have gb := FB9.out.c 0 _ rfl
  have gbl := FB9.out.lt
  have gc := FC9.out.c 0 _ rfl
  have gcl := FC9.out.lt
  have c1 := PC9.out.c 1 _ rfl
  have cl := PC9.out.lt
  have b1 := PB9.out.c 1 _ rfl
  have bl := PB9.out.lt
  rw [HL.out] at b1
  have p6 := P9.out.c 6 _ rfl
  have pl := P9.out.lt
  rw [HZ.out] at p6
  have u6 := KR9.out.c 6 _ rfl
  have ul := KR9.out.lt
  generalize toB r.d = sd at *
  go_wp2_with fail
  clear kc1 kc2 ga gal gb gbl gc gcl c1 cl b1 bl p6 pl u6 ul FA9 FB9 FC9 PC9 P9
  go_loopg [17, 18] m (fun gg s17 _ wr => ∃ k : Nat, (k ≤ m ∧ m - k ≤ gg) ∧ s17 = .int .i64 k ∧ wr = w9)
  case atStart => exact ⟨0, ⟨by omega, by omega⟩, rfl, rfl⟩
  case round =>
    obtain ⟨k, ⟨hk, hg⟩, rfl, rfl⟩ := hrel
    have hk0 : (0 : Int) ≤ (k : Int) := Int.natCast_nonneg _
    have b1 := PB9.out.c 1 _ rfl
    rw [HL.out] at b1
    have bl := PB9.out.lt
    by_cases hlt : k < m
    · have hltz : (k : Int) < (m : Int) := by omega
      have hm := HM.out
      obtain ⟨o0, o1⟩ := HOFF.out
      have hld := HLD.out
      have u4 := KR9.out.c 4 _ rfl
      have u6 := KR9.out.c 6 _ rfl
      have ul := KR9.out.lt
      by_cases hin : r.off ≤ (k : Int) ∧ (k : Int) < r.off + (r.d.length : Int)
      · obtain ⟨h1, h2⟩ := hin
        go_wp2_with fail
        go_roundg (m - (k + 1))
        case measure => omega
        case rel => exact ⟨k + 1, ⟨by omega, by omega⟩, by go_num, rfl⟩
      · have hby := HE.out k hlt hin
        obtain ⟨xa', xc', he, hcap, _, hj⟩ := QN9.out
        injection he with e1 _ e3
        subst e1 e3
        obtain ⟨nb, no, rfl, hnb, hnj⟩ := hj (by rw [HL.out]; omega)
        have nk := hnj k (by rw [HL.out]; exact hlt)
        rw [HL.out] at hcap
        have hcz : (m : Int) ≤ (xc : Int) := by omega
        rw [hby] at nk
        clear hj hnj hby HE QN9
        have a1 := PA9.out.c 1 _ rfl
        have al := PA9.out.lt
        by_cases hw : k < wasL.length
        · have hwz : (k : Int) < (wasL.length : Int) := by omega
          obtain ⟨wa', wc', he, hwcap, _, hj⟩ := QW9.out
          injection he with e1 _ e3
          subst e1 e3
          obtain ⟨wb, wo, rfl, hwb, hwj⟩ := hj (by omega)
          have wk := hwj k hw
          have hwcz : (wasL.length : Int) ≤ (wc : Int) := by omega
          clear hj hwj QW9
          generalize ((wasL.getD k 0).toNat : Int) = x at *
          generalize wasL.length = lw at *
          by_cases hA : r.off ≤ (k : Int)
          · have hB : ¬ (k : Int) < r.off + (r.d.length : Int) := fun h => hin ⟨hA, h⟩
            clear hin
            go_wp2_with fail
            go_roundg (m - (k + 1))
            case measure => omega
            case rel => exact ⟨k + 1, ⟨by omega, by omega⟩, by go_num, rfl⟩
          · clear hin
            go_wp2_with fail
            go_roundg (m - (k + 1))
            case measure => omega
            case rel => exact ⟨k + 1, ⟨by omega, by omega⟩, by go_num, rfl⟩
        · have hwz : ¬ (k : Int) < (wasL.length : Int) := by omega
          have e0 : wasL.getD k 0 = 0 := by rw [List.getD_eq_getElem?_getD, List.getElem?_eq_none (by omega)]; rfl
          rw [e0] at nk
          have nk2 : wr.cell? ⟨nb, no + k, none⟩ = some (.int .u8 0) := nk
          clear e0 nk
          generalize wasL.length = lw at *
          by_cases hA : r.off ≤ (k : Int)
          · have hB : ¬ (k : Int) < r.off + (r.d.length : Int) := fun h => hin ⟨hA, h⟩
            clear hin
            go_wp2_with fail
            go_roundg (m - (k + 1))
            case measure => omega
            case rel => exact ⟨k + 1, ⟨by omega, by omega⟩, by go_num, rfl⟩
          · clear hin
            go_wp2_with fail
            go_roundg (m - (k + 1))
            case measure => omega
            case rel => exact ⟨k + 1, ⟨by omega, by omega⟩, by go_num, rfl⟩
    · obtain rfl : k = m := by omega
      go_wp2
      go_ret
      exact ⟨rfl, B9.out⟩

theorem lawRaw_any (a : Option Addr) (c : Nat) (t : FT) (r : Rq) (vd va : Value) (w : World) (gm : GM w) (h : FNods w w.heap.size a c t) (hr : RqS w w.heap.size vd va r) :
    Calls Tryz.prog 6 #[.agg #[.slice a t.length c], rqV r vd va] w fun e w' => e = .returned (.bool true) ∧ Below w.heap.size w w' := by
  by_cases hh : (valT (tr t)).1 = 0 ∧ rqC (rqZ r) = 0
  · by_cases hc : (applyF t (rqZ r)).2.c ≠ 0 ∨ r.k ≠ 4
    · exact lawRawErr_any a c t r vd va w gm h hr hh.1 hh.2 hc
    · exact lawRawOk_any a c t r vd va w gm h hr hh.1 hh.2 (Decidable.not_not.1 fun h => hc (.inl h)) (Decidable.not_not.1 fun h => hc (.inr h))
  · exact lawRawBad_any a c t r vd va w gm h hr hh

end Go.Proofs.YtmbbmmnpkdfecaaGreatDoor
