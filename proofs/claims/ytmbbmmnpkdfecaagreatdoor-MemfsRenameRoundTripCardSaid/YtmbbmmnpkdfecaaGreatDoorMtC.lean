/- What a law of package memfs or of its neighbours needs, at the translation of this seat.
   Condition: as each theorem states; this text: MfLnk1, MfLawRen. -/
import Derived.Test.YtmbbmmnpkdfecaaGreatDoorMtA
import Derived.Test.YtmbbmmnpkdfecaaGreatDoorMtB
import Derived.WalkSmall

set_option linter.all false

/- memfs.Apply at a valid tree and request, with the results written out. Conditions: the tree and the request lie in memory as they read. -/

set_option linter.all false
namespace Go.Proofs.YtmbbmmnpkdfecaaGreatDoor
open Go.RowKit

theorem applyV_any (a : Option Addr) (c : Nat) (t : FT) (r : Rq) (vd va : Value) (w : World) (gm : GM w) (h : FNods w w.heap.size a c t) (hr : RqS w w.heap.size vd va r) (hv : (valT (tr t)).1 = 0) (hq : rqC r = 0) :
    Calls Tryz.prog 12 #[.agg #[.slice a t.length c], rqV r vd va] w fun e w' => Below w.heap.size w w' ∧ ∃ g cap da dc na nc, e = .returned (.tuple #[.agg #[.slice (some ⟨g, 0, none⟩) (applyF t r).1.length cap], .agg #[.int .i64 (applyF t r).2.c, .slice da (applyF t r).2.d.length dc, .slice na (applyF t r).2.ns.length nc, .int .i64 (applyF t r).2.s.i, .int .i64 (applyF t r).2.s.k, .int .i64 (applyF t r).2.s.o, .int .i64 (applyF t r).2.s.z, .int .i64 (applyF t r).2.s.l, .int .i64 (applyF t r).2.s.v], .agg #[.int .i64 0, .int .i64 0]])
      ∧ FNods w' w'.heap.size (some ⟨g, 0, none⟩) cap (applyF t r).1 := by
  refine (applyOk_any a c t r vd va w gm h hr hv hq).mono ?_
  rintro e w' ⟨hb, g, cap, sl, v1, v2, rfl, ho, hs⟩
  obtain ⟨da, dc, rfl, _⟩ := id hs.d
  obtain ⟨na, nc, rfl, _⟩ := id hs.ns
  exact ⟨hb, g, cap, da, dc, na, nc, rfl, ho.fnods⟩
theorem RqS.wbq {w : World} {p : ByteArray} {b : List UInt8} {vb : Value} (hb : Byts w w.heap.size vb b) (hp : p.size ≤ maxLen) : RqS w w.heap.size vb (.slice none 0 0) (Go.Proofs.YtmbbmmnpkdfecaaGreatDoor.wbq p b) :=
  ⟨hb, Acls.none_ _ _, (by show i64 (4 : Int); unfold i64; decide), (by show i64 (0 : Int); unfold i64; decide), (by show i64 (0 : Int); unfold i64; decide), (by show i64 (0 : Int); unfold i64; decide), hp, (by show ByteArray.empty.size ≤ maxLen; decide), ⟨(by show ByteArray.empty.size ≤ maxLen; decide), (by show ByteArray.empty.size ≤ maxLen; decide)⟩⟩
theorem RqS.rmq {w : World} {p : ByteArray} (hp : p.size ≤ maxLen) : RqS w w.heap.size (.slice none 0 0) (.slice none 0 0) (Go.Proofs.YtmbbmmnpkdfecaaGreatDoor.rmq p) :=
  ⟨Byts.none_ _ _, Acls.none_ _ _, (by show i64 (8 : Int); unfold i64; decide), (by show i64 (0 : Int); unfold i64; decide), (by show i64 (0 : Int); unfold i64; decide), (by show i64 (0 : Int); unfold i64; decide), hp, (by show ByteArray.empty.size ≤ maxLen; decide), ⟨(by show ByteArray.empty.size ≤ maxLen; decide), (by show ByteArray.empty.size ≤ maxLen; decide)⟩⟩
end Go.Proofs.YtmbbmmnpkdfecaaGreatDoor

/- The law MemfsRenameRoundTrip returns true at every tree and request. Conditions: they lie in memory as they read; the door's variable lies in memory. -/

set_option linter.all false
namespace Go.Proofs.YtmbbmmnpkdfecaaGreatDoor
open Go.RowKit

theorem RqS.rnq {w : World} {p q : ByteArray} (hp : p.size ≤ maxLen) (hq : q.size ≤ maxLen) : RqS w w.heap.size (.slice none 0 0) (.slice none 0 0) (Go.Proofs.YtmbbmmnpkdfecaaGreatDoor.rnq p q) :=
  ⟨Byts.none_ _ _, Acls.none_ _ _, (by show i64 (9 : Int); unfold i64; decide), (by show i64 (0 : Int); unfold i64; decide), (by show i64 (0 : Int); unfold i64; decide), (by show i64 (0 : Int); unfold i64; decide), hp, hq, ⟨(by show ByteArray.empty.size ≤ maxLen; decide), (by show ByteArray.empty.size ≤ maxLen; decide)⟩⟩
theorem FNods.oneB {w : World} {a : Option Addr} {c : Nat} {t : FT} (h : FNods w w.heap.size a c t) {n : Nat} (hn : n < t.length) : ∃ b o, a = some ⟨b, o, none⟩ ∧ b < w.heap.size ∧ ∃ s : Sl, NodC w b (o + n * 8) s.e s.d s.a s.x (ino t n).nod ∧ NodS w w.heap.size s.e s.d s.a s.x (ino t n).nod ∧ Byts w w.heap.size s.d (ino t n).d := by
  obtain ⟨b, o, ha, hb, hj⟩ := h.at_ (by omega)
  obtain ⟨s, h1, h2, h3⟩ := hj n hn
  exact ⟨b, o, ha, hb, s, h1, h2, h3⟩
/-- What holds while the inodes are compared. -/
structure RNI (w wr : World) (m1 : Nat) (a : Option Addr) (c g2 cap2 b2 : Nat) (sl2 : Nat → Sl) (t y : FT) : Prop where
  b : Below w.heap.size w wr
  kt : Blk wr w.heap.size [.slice a t.length c]
  ku : Blk wr m1 [.slice (some ⟨g2, 0, none⟩) y.length cap2]
  ft : FNods wr wr.heap.size a c t
  oy : OT wr b2 g2 cap2 sl2 y
theorem RNI.step {w wr z : World} {m1 : Nat} {a : Option Addr} {c g2 cap2 b2 : Nat} {sl2 : Nat → Sl} {t y : FT} (h : RNI w wr m1 a c g2 cap2 b2 sl2 t y) (hb : Below wr.heap.size wr z) : RNI w z m1 a c g2 cap2 b2 sl2 t y :=
  ⟨h.b.trans (hb.mono h.b.size), h.kt.up hb, h.ku.up hb, h.ft.up hb, h.oy.up hb⟩

set_option maxRecDepth 100000 in
set_option maxHeartbeats 6400000 in
theorem lawRenBad_any (a : Option Addr) (c : Nat) (t : FT) (r : Rq) (vd va : Value) (w : World) (gm : GM w) (h : FNods w w.heap.size a c t) (hr : RqS w w.heap.size vd va r) (hbad : ¬ ((valT (tr t)).1 = 0 ∧ rqC (rqZ r) = 0)) :
    Calls Tryz.prog 7 #[.agg #[.slice a t.length c], rqV r vd va] w fun e w' => e = .returned (.bool true) ∧ Below w.heap.size w w' := by
  obtain ⟨qa, qc, rfl, hqd⟩ := id hr.d
  obtain ⟨pa, pc, rfl, hpd⟩ := id hr.ac
  clear hqd hpd
  have T := Lib.hid (two_new w [.slice a t.length c] (rqL r (.slice qa r.d.length qc) (.slice pa r.ac.length pc)) 24 30)
  unfold rqL at T
  have hsupV : rqV (rqZ r) (.slice qa r.d.length qc) (.slice pa r.ac.length pc) = .agg #[.int .i64 r.k, .int .i64 0, .string r.p, .string r.t, .int .i64 r.off, .int .i64 r.sz, .slice qa r.d.length qc, .slice pa r.ac.length pc, .string r.a.n, .string r.a.v] := rfl
  have CE := Lib.hid (fun W (hb : Below w.heap.size w W) => example_any W (gm.below hb))
  have CA := Lib.hid (fun W (hb : Below w.heap.size w W) => (applyFault_any a c t (rqZ r) (.slice qa r.d.length qc) (.slice pa r.ac.length pc) W (gm.below hb) (h.up hb) (hr.up hb).zero hbad).2)
  have hne := (applyFault_any a c t (rqZ r) (.slice qa r.d.length qc) (.slice pa r.ac.length pc) w gm h hr.zero hbad).1
  clear gm h hr hbad
  generalize (fltF t (rqZ r)).1 = fc at *
  generalize (fltF t (rqZ r)).2 = fi at *
  have hcc : (fc != 0) = true := by simpa using hne
  have hcd : (fc == 0) = false := by simpa using hne
  clear hne
  unfold rpV at CA
  rw [hsupV] at CA
  clear hsupV
  unfold rqV at *
  go_enter Tryz.func7, Tryz.ntmps7
  go_upto_region 1 with fail
  have hNe : w.heap.size ≠ w.heap.size + 1 := by omega
  have hNw : w.heap.size ≤ w.heap.size + 1 := by omega
  generalize (w.alloc (.cells #[.slice a t.length c] 24)).alloc (.cells #[.int .i64 r.k, .int .i64 r.u, .string r.p, .string r.t, .int .i64 r.off, .int .i64 r.sz, .slice qa r.d.length qc, .slice pa r.ac.length pc, .string r.a.n, .string r.a.v] 30) = w2 at *
  generalize w.heap.size + 1 = N at *
  obtain ⟨tb, tt, tr'⟩ := T.out
  have B2 := Lib.hid tb
  have KT2 := Lib.hid tt
  have KR2 := Lib.hid tr'
  clear tb tt tr' T
  have u1 := KR2.out.c 1 _ rfl
  have u1f := KR2.out.f 1 (by simp)
  have ul := KR2.out.lt
  go_upto_region 2 with fail
  have KR := Lib.hid (show Blk (w2.setCell ⟨N, 1, none⟩ (.int .i64 0)) N [.int .i64 r.k, .int .i64 0, .string r.p, .string r.t, .int .i64 r.off, .int .i64 r.sz, .slice qa r.d.length qc, .slice pa r.ac.length pc, .string r.a.n, .string r.a.v] from KR2.out.put 1 (.int .i64 0) (by simp))
  have KT := Lib.hid (KT2.out.far (p := ⟨N, 1, none⟩) hNe (.int .i64 0))
  have B3 := Lib.hid (B2.out.setCell (p := ⟨N, 1, none⟩) hNw (.int .i64 0))
  clear u1 u1f ul KT2 KR2 B2 hNe hNw
  generalize w2.setCell ⟨N, 1, none⟩ (.int .i64 0) = w3 at *
  have k0 := KT.out.c 0 _ rfl
  have u0 := KR.out.c 0 _ rfl
  have u1 := KR.out.c 1 _ rfl
  have u2 := KR.out.c 2 _ rfl
  have u3 := KR.out.c 3 _ rfl
  have u4 := KR.out.c 4 _ rfl
  have u5 := KR.out.c 5 _ rfl
  have u6 := KR.out.c 6 _ rfl
  have u7 := KR.out.c 7 _ rfl
  have u8 := KR.out.c 8 _ rfl
  have u9 := KR.out.c 9 _ rfl
  have kl := KT.out.lt
  have ul := KR.out.lt
  go_wp2_with fail
  refine (CA.out _ B3.out).mono ?_
  rintro e z ⟨hbz, rfl⟩
  clear k0 u0 u1 u2 u3 u4 u5 u6 u7 u8 u9 kl ul CA
  have TN := Lib.hid (three_new z [.slice none 0 0] [.int .i64 0, .slice none 0 0, .slice none 0 0, .int .i64 0, .int .i64 0, .int .i64 0, .int .i64 0, .int .i64 0, .int .i64 0] [.int .i64 fc, .int .i64 fi] 24 35 37)
  go_upto_region 3 with fail
  have gg := hbz.trans (TN.out.1.mono hbz.size)
  have KT5 := Lib.hid (KT.out.up gg)
  have KR5 := Lib.hid (KR.out.up gg)
  have B5 := Lib.hid (B3.out.trans (gg.mono B3.out.size))
  clear gg hbz KT KR B3
  generalize ((z.alloc (.cells #[.slice none 0 0] 24)).alloc (.cells #[.int .i64 0, .slice none 0 0, .slice none 0 0, .int .i64 0, .int .i64 0, .int .i64 0, .int .i64 0, .int .i64 0, .int .i64 0] 35)).alloc (.cells #[.int .i64 fc, .int .i64 fi] 37) = w5 at *
  generalize z.heap.size + 1 + 1 = n3 at *
  generalize z.heap.size + 1 = n2 at *
  generalize z.heap.size = n1 at *
  have U5 := Lib.hid TN.out.2.1
  have P5 := Lib.hid TN.out.2.2.1
  have F5 := Lib.hid TN.out.2.2.2
  clear TN
  go_wp2_with fail
  refine (CE.out _ B5.out).mono ?_
  rintro e w6 ⟨rfl, b6⟩
  have B6 := Lib.hid (B5.out.trans (b6.mono B5.out.size))
  have KT6 := Lib.hid (KT5.out.up b6)
  have KR6 := Lib.hid (KR5.out.up b6)
  have U6 := Lib.hid (U5.out.up b6)
  have P6 := Lib.hid (P5.out.up b6)
  have F6 := Lib.hid (F5.out.up b6)
  clear b6 KT5 KR5 U5 P5 F5 B5 CE
  have f0 := F6.out.c 0 _ rfl
  have fl := F6.out.lt
  have p0 := P6.out.c 0 _ rfl
  have pl := P6.out.lt
  have u0 := KR6.out.c 0 _ rfl
  have ul := KR6.out.lt
  have p1 := P6.out.c 1 _ rfl
  have p2 := P6.out.c 2 _ rfl
  have p3 := P6.out.c 3 _ rfl
  have p4 := P6.out.c 4 _ rfl
  have p5 := P6.out.c 5 _ rfl
  have p6 := P6.out.c 6 _ rfl
  have p7 := P6.out.c 7 _ rfl
  have p8 := P6.out.c 8 _ rfl
  go_wp2_with fail
  refine (isEmptyNil_any _).mono ?_
  rintro e w7 ⟨rfl, b7⟩
  go_wp2
  go_ret
  exact ⟨rfl, B6.out.trans (b7.mono B6.out.size)⟩

set_option maxRecDepth 100000 in
set_option maxHeartbeats 6400000 in
theorem lawRenErr_any (a : Option Addr) (c : Nat) (t : FT) (r : Rq) (vd va : Value) (w : World) (gm : GM w) (h : FNods w w.heap.size a c t) (hr : RqS w w.heap.size vd va r) (hv : (valT (tr t)).1 = 0) (hq : rqC (rqZ r) = 0) (hc : (applyF t (rqZ r)).2.c ≠ 0 ∨ r.k ≠ 9) :
    Calls Tryz.prog 7 #[.agg #[.slice a t.length c], rqV r vd va] w fun e w' => e = .returned (.bool true) ∧ Below w.heap.size w w' := by
  obtain ⟨qa, qc, rfl, hqd⟩ := id hr.d
  obtain ⟨pa, pc, rfl, hpd⟩ := id hr.ac
  clear hqd hpd
  have T := Lib.hid (two_new w [.slice a t.length c] (rqL r (.slice qa r.d.length qc) (.slice pa r.ac.length pc)) 24 30)
  unfold rqL at T
  have hsupV : rqV (rqZ r) (.slice qa r.d.length qc) (.slice pa r.ac.length pc) = .agg #[.int .i64 r.k, .int .i64 0, .string r.p, .string r.t, .int .i64 r.off, .int .i64 r.sz, .slice qa r.d.length qc, .slice pa r.ac.length pc, .string r.a.n, .string r.a.v] := rfl
  have CE := Lib.hid (fun W (hb : Below w.heap.size w W) => example_any W (gm.below hb))
  have CA := Lib.hid (fun W (hb : Below w.heap.size w W) => applyOk_any a c t (rqZ r) (.slice qa r.d.length qc) (.slice pa r.ac.length pc) W (gm.below hb) (h.up hb) (hr.up hb).zero hv hq)
  clear gm h hr hv hq
  generalize applyF t (rqZ r) = AF at *
  obtain ⟨t', p⟩ := AF
  simp only at CA hc
  have HC := Lib.hid hc
  clear hc
  unfold rpV at CA
  rw [hsupV] at CA
  clear hsupV
  unfold rqV at *
  go_enter Tryz.func7, Tryz.ntmps7
  go_upto_region 1 with fail
  have hNe : w.heap.size ≠ w.heap.size + 1 := by omega
  have hNw : w.heap.size ≤ w.heap.size + 1 := by omega
  generalize (w.alloc (.cells #[.slice a t.length c] 24)).alloc (.cells #[.int .i64 r.k, .int .i64 r.u, .string r.p, .string r.t, .int .i64 r.off, .int .i64 r.sz, .slice qa r.d.length qc, .slice pa r.ac.length pc, .string r.a.n, .string r.a.v] 30) = w2 at *
  generalize w.heap.size + 1 = N at *
  obtain ⟨tb, tt, tr'⟩ := T.out
  have B2 := Lib.hid tb
  have KT2 := Lib.hid tt
  have KR2 := Lib.hid tr'
  clear tb tt tr' T
  have u1 := KR2.out.c 1 _ rfl
  have u1f := KR2.out.f 1 (by simp)
  have ul := KR2.out.lt
  go_upto_region 2 with fail
  have KR := Lib.hid (show Blk (w2.setCell ⟨N, 1, none⟩ (.int .i64 0)) N [.int .i64 r.k, .int .i64 0, .string r.p, .string r.t, .int .i64 r.off, .int .i64 r.sz, .slice qa r.d.length qc, .slice pa r.ac.length pc, .string r.a.n, .string r.a.v] from KR2.out.put 1 (.int .i64 0) (by simp))
  have KT := Lib.hid (KT2.out.far (p := ⟨N, 1, none⟩) hNe (.int .i64 0))
  have B3 := Lib.hid (B2.out.setCell (p := ⟨N, 1, none⟩) hNw (.int .i64 0))
  clear u1 u1f ul KT2 KR2 B2 hNe hNw
  generalize w2.setCell ⟨N, 1, none⟩ (.int .i64 0) = w3 at *
  have k0 := KT.out.c 0 _ rfl
  have u0 := KR.out.c 0 _ rfl
  have u1 := KR.out.c 1 _ rfl
  have u2 := KR.out.c 2 _ rfl
  have u3 := KR.out.c 3 _ rfl
  have u4 := KR.out.c 4 _ rfl
  have u5 := KR.out.c 5 _ rfl
  have u6 := KR.out.c 6 _ rfl
  have u7 := KR.out.c 7 _ rfl
  have u8 := KR.out.c 8 _ rfl
  have u9 := KR.out.c 9 _ rfl
  have kl := KT.out.lt
  have ul := KR.out.lt
  go_wp2_with fail
  refine (CA.out _ B3.out).mono ?_
  rintro e z ⟨hbz, g, cap, sl, vd', vn', rfl, ho, hs⟩
  obtain ⟨da, dc, rfl, hda⟩ := id hs.d
  obtain ⟨na, nc, rfl, hna⟩ := id hs.ns
  have OZ := Lib.hid ho
  clear hda hna ho hs
  clear k0 u0 u1 u2 u3 u4 u5 u6 u7 u8 u9 kl ul CA
  have TN := Lib.hid (three_new z [.slice (some ⟨g, 0, none⟩) t'.length cap] [.int .i64 p.c, .slice da p.d.length dc, .slice na p.ns.length nc, .int .i64 p.s.i, .int .i64 p.s.k, .int .i64 p.s.o, .int .i64 p.s.z, .int .i64 p.s.l, .int .i64 p.s.v] [.int .i64 0, .int .i64 0] 24 35 37)
  go_upto_region 3 with fail
  have gg := hbz.trans (TN.out.1.mono hbz.size)
  have KT5 := Lib.hid (KT.out.up gg)
  have KR5 := Lib.hid (KR.out.up gg)
  have B5 := Lib.hid (B3.out.trans (gg.mono B3.out.size))
  have O5 := Lib.hid (OZ.out.up TN.out.1)
  clear gg hbz KT KR B3
  generalize ((z.alloc (.cells #[.slice (some ⟨g, 0, none⟩) t'.length cap] 24)).alloc (.cells #[.int .i64 p.c, .slice da p.d.length dc, .slice na p.ns.length nc, .int .i64 p.s.i, .int .i64 p.s.k, .int .i64 p.s.o, .int .i64 p.s.z, .int .i64 p.s.l, .int .i64 p.s.v] 35)).alloc (.cells #[.int .i64 0, .int .i64 0] 37) = w5 at *
  generalize z.heap.size + 1 + 1 = n3 at *
  generalize z.heap.size + 1 = n2 at *
  generalize z.heap.size = n1 at *
  have U5 := Lib.hid TN.out.2.1
  have P5 := Lib.hid TN.out.2.2.1
  have F5 := Lib.hid TN.out.2.2.2
  clear TN
  clear OZ
  go_wp2_with fail
  refine (CE.out _ B5.out).mono ?_
  rintro e w6 ⟨rfl, b6⟩
  have B6 := Lib.hid (B5.out.trans (b6.mono B5.out.size))
  have KT6 := Lib.hid (KT5.out.up b6)
  have KR6 := Lib.hid (KR5.out.up b6)
  have U6 := Lib.hid (U5.out.up b6)
  have P6 := Lib.hid (P5.out.up b6)
  have F6 := Lib.hid (F5.out.up b6)
  have O6 := Lib.hid (O5.out.up b6)
  clear b6 KT5 KR5 U5 P5 F5 B5 CE O5
  have f0 := F6.out.c 0 _ rfl
  have fl := F6.out.lt
  have p0 := P6.out.c 0 _ rfl
  have pl := P6.out.lt
  have u0 := KR6.out.c 0 _ rfl
  have ul := KR6.out.lt
  by_cases hp : p.c = 0
  · rw [hp] at p0
    have hk4 : (r.k != 9) = true := by simpa using HC.out.resolve_left (fun h => h hp)
    clear hp HC
    go_wp2
    go_ret
    exact ⟨rfl, B6.out⟩
  · have hpc : (p.c != 0) = true := by simpa using hp
    clear hp HC
    go_wp2
    go_ret
    exact ⟨rfl, B6.out⟩

set_option maxRecDepth 100000 in
set_option maxHeartbeats 6400000 in
theorem lawRenOk_any (a : Option Addr) (c : Nat) (t : FT) (r : Rq) (vd va : Value) (w : World) (gm : GM w) (h : FNods w w.heap.size a c t) (hr : RqS w w.heap.size vd va r) (hv : (valT (tr t)).1 = 0) (hq : rqC (rqZ r) = 0) (hc : (applyF t (rqZ r)).2.c = 0) (hk : r.k = 9) :
    Calls Tryz.prog 7 #[.agg #[.slice a t.length c], rqV r vd va] w fun e w' => e = .returned (.bool true) ∧ Below w.heap.size w w' := by
  obtain ⟨qa, qc, rfl, hqd⟩ := id hr.d
  obtain ⟨pa, pc, rfl, hpd⟩ := id hr.ac
  clear hqd hpd
  have T := Lib.hid (two_new w [.slice a t.length c] (rqL r (.slice qa r.d.length qc) (.slice pa r.ac.length pc)) 24 30)
  unfold rqL at T
  have hsupV : rqV (rqZ r) (.slice qa r.d.length qc) (.slice pa r.ac.length pc) = .agg #[.int .i64 r.k, .int .i64 0, .string r.p, .string r.t, .int .i64 r.off, .int .i64 r.sz, .slice qa r.d.length qc, .slice pa r.ac.length pc, .string r.a.n, .string r.a.v] := rfl
  have CE := Lib.hid (fun W (hb : Below w.heap.size w W) => example_any W (gm.below hb))
  have CA := Lib.hid (fun W (hb : Below w.heap.size w W) => applyOk_any a c t (rqZ r) (.slice qa r.d.length qc) (.slice pa r.ac.length pc) W (gm.below hb) (h.up hb) (hr.up hb).zero hv hq)
  obtain ⟨n, hq2, hsi, hl1, hl2, hc2, hsi2, hlen, hyI⟩ := ren_at (t := t) (r := rqZ r) hv hk rfl hq hc
  change rqC (rnq r.t r.p) = 0 at hq2
  change (lookF (tr t) r.p).1 = n at hl1
  change (lookF (tr t) r.p).2.1 = 0 at hl2
  change (applyF _ (rnq r.t r.p)).2.c = 0 at hc2
  change (applyF _ (rnq r.t r.p)).2.s.i = _ at hsi2
  change (applyF _ (rnq r.t r.p)).1.length = _ at hlen
  change ∀ j, ∃ v : Int, ino (applyF _ (rnq r.t r.p)).1 j = _ at hyI
  have hps := hr.p
  have hts := hr.t
  have hv' := apply_valid hv (rqZ r)
  have C2 := Lib.hid (fun W g cap (h2 : FNods W W.heap.size (some ⟨g, 0, none⟩) cap (applyF t (rqZ r)).1) (hb : Below w.heap.size w W) => applyOk_any (some ⟨g, 0, none⟩) cap (applyF t (rqZ r)).1 (rnq r.t r.p) (.slice none 0 0) (.slice none 0 0) W (gm.below hb) h2 (RqS.rnq hts hps) hv' hq2)
  rw [show rqV (rnq r.t r.p) (.slice none 0 0) (.slice none 0 0) = .agg #[.int .i64 9, .int .i64 0, .string r.t, .string r.p, .int .i64 0, .int .i64 0, .slice none 0 0, .slice none 0 0, .string ByteArray.empty, .string ByteArray.empty] from rfl] at C2
  unfold rpV at C2
  have CL := Lib.hid (fun W (hb : Below w.heap.size w W) => lookup_any a c (tr t) r.p W (gm.below hb) hps (h.up hb).nods)
  unfold faultV at CL
  rw [hl1, hl2, tr_len] at CL
  generalize (lookF (tr t) r.p).2.2 = li at *
  have HT := Lib.hid h
  have HL40 := Lib.hid (len_of hv)
  clear gm h hr hv hq hq2 hl1 hl2 hps hts hv'
  generalize applyF (applyF t (rqZ r)).1 (rnq r.t r.p) = AY at *
  generalize applyF t (rqZ r) = AF at *
  obtain ⟨t', p⟩ := AF
  obtain ⟨y, p2⟩ := AY
  simp only at CA hc C2 hsi hc2 hsi2 hlen hyI
  have HC := Lib.hid hc
  have HK := Lib.hid hk
  have HSI := Lib.hid hsi
  have HC2 := Lib.hid hc2
  have HSI2 := Lib.hid hsi2
  have HLEN := Lib.hid hlen
  have HYI := Lib.hid hyI
  clear hc hk hsi hc2 hsi2 hlen hyI
  unfold rpV at CA
  rw [hsupV] at CA
  clear hsupV
  unfold rqV at *
  go_enter Tryz.func7, Tryz.ntmps7
  go_upto_region 1 with fail
  have hNe : w.heap.size ≠ w.heap.size + 1 := by omega
  have hNw : w.heap.size ≤ w.heap.size + 1 := by omega
  generalize (w.alloc (.cells #[.slice a t.length c] 24)).alloc (.cells #[.int .i64 r.k, .int .i64 r.u, .string r.p, .string r.t, .int .i64 r.off, .int .i64 r.sz, .slice qa r.d.length qc, .slice pa r.ac.length pc, .string r.a.n, .string r.a.v] 30) = w2 at *
  generalize w.heap.size + 1 = N at *
  obtain ⟨tb, tt, tr'⟩ := T.out
  have B2 := Lib.hid tb
  have KT2 := Lib.hid tt
  have KR2 := Lib.hid tr'
  clear tb tt tr' T
  have u1 := KR2.out.c 1 _ rfl
  have u1f := KR2.out.f 1 (by simp)
  have ul := KR2.out.lt
  go_upto_region 2 with fail
  have KR := Lib.hid (show Blk (w2.setCell ⟨N, 1, none⟩ (.int .i64 0)) N [.int .i64 r.k, .int .i64 0, .string r.p, .string r.t, .int .i64 r.off, .int .i64 r.sz, .slice qa r.d.length qc, .slice pa r.ac.length pc, .string r.a.n, .string r.a.v] from KR2.out.put 1 (.int .i64 0) (by simp))
  have KT := Lib.hid (KT2.out.far (p := ⟨N, 1, none⟩) hNe (.int .i64 0))
  have B3 := Lib.hid (B2.out.setCell (p := ⟨N, 1, none⟩) hNw (.int .i64 0))
  clear u1 u1f ul KT2 KR2 B2 hNe hNw
  generalize w2.setCell ⟨N, 1, none⟩ (.int .i64 0) = w3 at *
  have k0 := KT.out.c 0 _ rfl
  have u0 := KR.out.c 0 _ rfl
  have u1 := KR.out.c 1 _ rfl
  have u2 := KR.out.c 2 _ rfl
  have u3 := KR.out.c 3 _ rfl
  have u4 := KR.out.c 4 _ rfl
  have u5 := KR.out.c 5 _ rfl
  have u6 := KR.out.c 6 _ rfl
  have u7 := KR.out.c 7 _ rfl
  have u8 := KR.out.c 8 _ rfl
  have u9 := KR.out.c 9 _ rfl
  have kl := KT.out.lt
  have ul := KR.out.lt
  go_wp2_with fail
  refine (CA.out _ B3.out).mono ?_
  rintro e z ⟨hbz, g, cap, sl, vd', vn', rfl, ho, hs⟩
  obtain ⟨da, dc, rfl, hda⟩ := id hs.d
  obtain ⟨na, nc, rfl, hna⟩ := id hs.ns
  have OZ := Lib.hid ho
  clear hda hna ho hs
  clear k0 u0 u1 u2 u3 u4 u5 u6 u7 u8 u9 kl ul CA
  have TN := Lib.hid (three_new z [.slice (some ⟨g, 0, none⟩) t'.length cap] [.int .i64 p.c, .slice da p.d.length dc, .slice na p.ns.length nc, .int .i64 p.s.i, .int .i64 p.s.k, .int .i64 p.s.o, .int .i64 p.s.z, .int .i64 p.s.l, .int .i64 p.s.v] [.int .i64 0, .int .i64 0] 24 35 37)
  go_upto_region 3 with fail
  have gg := hbz.trans (TN.out.1.mono hbz.size)
  have KT5 := Lib.hid (KT.out.up gg)
  have KR5 := Lib.hid (KR.out.up gg)
  have B5 := Lib.hid (B3.out.trans (gg.mono B3.out.size))
  have O5 := Lib.hid (OZ.out.up TN.out.1)
  clear gg hbz KT KR B3
  generalize ((z.alloc (.cells #[.slice (some ⟨g, 0, none⟩) t'.length cap] 24)).alloc (.cells #[.int .i64 p.c, .slice da p.d.length dc, .slice na p.ns.length nc, .int .i64 p.s.i, .int .i64 p.s.k, .int .i64 p.s.o, .int .i64 p.s.z, .int .i64 p.s.l, .int .i64 p.s.v] 35)).alloc (.cells #[.int .i64 0, .int .i64 0] 37) = w5 at *
  generalize z.heap.size + 1 + 1 = n3 at *
  generalize z.heap.size + 1 = n2 at *
  generalize z.heap.size = n1 at *
  have U5 := Lib.hid TN.out.2.1
  have P5 := Lib.hid TN.out.2.2.1
  have F5 := Lib.hid TN.out.2.2.2
  clear TN
  clear OZ
  go_wp2_with fail
  refine (CE.out _ B5.out).mono ?_
  rintro e w6 ⟨rfl, b6⟩
  have B6 := Lib.hid (B5.out.trans (b6.mono B5.out.size))
  have KT6 := Lib.hid (KT5.out.up b6)
  have KR6 := Lib.hid (KR5.out.up b6)
  have U6 := Lib.hid (U5.out.up b6)
  have P6 := Lib.hid (P5.out.up b6)
  have F6 := Lib.hid (F5.out.up b6)
  have O6 := Lib.hid (O5.out.up b6)
  clear b6 KT5 KR5 U5 P5 F5 B5 CE O5
  have f0 := F6.out.c 0 _ rfl
  have fl := F6.out.lt
  have p0 := P6.out.c 0 _ rfl
  have pl := P6.out.lt
  have u0 := KR6.out.c 0 _ rfl
  have ul := KR6.out.lt
  rw [HC.out] at p0
  rw [HK.out] at u0
  have t0 := U6.out.c 0 _ rfl
  have tl := U6.out.lt
  have u3 := KR6.out.c 3 _ rfl
  have u2 := KR6.out.c 2 _ rfl
  go_wp2_with fail
  refine (C2.out _ g cap O6.out.fnods B6.out).mono ?_
  rintro e x ⟨hbz, g2, cap2, sl2, vd2, vn2, rfl, ho2, hs2⟩
  obtain ⟨wa, wc, rfl, _⟩ := id hs2.d
  obtain ⟨ra1, rc1, rfl, _⟩ := id hs2.ns
  have QZ := Lib.hid ho2
  clear ho2 hs2 f0 fl p0 pl u0 ul t0 tl u3 u2 F6 C2
  have TN := Lib.hid (three_new x [.slice (some ⟨g2, 0, none⟩) y.length cap2] [.int .i64 p2.c, .slice wa p2.d.length wc, .slice ra1 p2.ns.length rc1, .int .i64 p2.s.i, .int .i64 p2.s.k, .int .i64 p2.s.o, .int .i64 p2.s.z, .int .i64 p2.s.l, .int .i64 p2.s.v] [.int .i64 0, .int .i64 0] 24 35 37)
  go_upto_region 8 with fail
  have gg := hbz.trans (TN.out.1.mono hbz.size)
  have B7 := Lib.hid (B6.out.trans (gg.mono B6.out.size))
  have KT7 := Lib.hid (KT6.out.up gg)
  have KR7 := Lib.hid (KR6.out.up gg)
  have P7 := Lib.hid (P6.out.up gg)
  have QY7 := Lib.hid (QZ.out.up TN.out.1)
  clear QZ U6 O6
  clear gg hbz B6 KT6 KR6 P6
  generalize ((x.alloc (.cells #[.slice (some ⟨g2, 0, none⟩) y.length cap2] 24)).alloc (.cells #[.int .i64 p2.c, .slice wa p2.d.length wc, .slice ra1 p2.ns.length rc1, .int .i64 p2.s.i, .int .i64 p2.s.k, .int .i64 p2.s.o, .int .i64 p2.s.z, .int .i64 p2.s.l, .int .i64 p2.s.v] 35)).alloc (.cells #[.int .i64 0, .int .i64 0] 37) = w7 at *
  generalize x.heap.size + 1 + 1 = m3 at *
  generalize x.heap.size + 1 = m2 at *
  generalize x.heap.size = m1 at *
  have UA7 := Lib.hid TN.out.2.1
  have PA7 := Lib.hid TN.out.2.2.1
  have FA7 := Lib.hid TN.out.2.2.2
  clear TN
  have ga := FA7.out.c 0 _ rfl
  have gal := FA7.out.lt
  have z0 := PA7.out.c 0 _ rfl
  have z3 := PA7.out.c 3 _ rfl
  have zl := PA7.out.lt
  rw [HC2.out] at z0
  rw [HSI2.out] at z3
  have p3 := P7.out.c 3 _ rfl
  have pl := P7.out.lt
  rw [HSI.out] at p3
  have ua := UA7.out.c 0 _ rfl
  have ual := UA7.out.lt
  rw [HLEN.out] at ua
  have k0 := KT7.out.c 0 _ rfl
  have kl := KT7.out.lt
  have u2 := KR7.out.c 2 _ rfl
  have ul := KR7.out.lt
  go_wp2_with fail
  refine (CL.out _ B7.out).mono ?_
  rintro e x ⟨rfl, hbz⟩
  have LN := Lib.hid (Blk.new x [.int .i64 0, .int .i64 li] 37)
  have gg := hbz.trans ((Below.refl x.heap.size x).alloc (Nat.le_refl _) (.cells #[.int .i64 0, .int .i64 li] 37) |>.mono hbz.size)
  clear ga gal z0 z3 zl p3 pl ua ual k0 kl u2 ul CL
  go_upto_region 11 with fail
  have P := Lib.hid (P7.out.up gg)
  have S9 := Lib.hid (show RNI w (x.alloc (.cells #[.int .i64 0, .int .i64 li] 37)) m1 a c g2 cap2 _ sl2 t y from ⟨B7.out.trans (gg.mono B7.out.size), KT7.out.up gg, UA7.out.up gg, HT.out.up (B7.out.trans (gg.mono B7.out.size)), QY7.out.up gg⟩)
  clear gg hbz B7 KT7 KR7 P7 UA7 PA7 FA7 QY7 HT
  generalize x.alloc (.cells #[.int .i64 0, .int .i64 li] 37) = wx at *
  generalize x.heap.size = lx at *
  have l0 := LN.out.c 0 _ rfl
  have ll := LN.out.lt
  have p3 := P.out.c 3 _ rfl
  have pl := P.out.lt
  rw [HSI.out] at p3
  go_wp2_with fail
  clear l0 ll p3 pl LN P
  go_loopg [13, 14] t.length (fun gg s13 _ wr => ∃ i : Nat, i ≤ t.length ∧ t.length - i ≤ gg ∧ s13 = .int .i64 i ∧ Aside (RNI w wr m1 a c g2 cap2 w6.heap.size sl2 t y))
  case atStart => exact ⟨0, by omega, by omega, rfl, S9.out⟩
  case round =>
    obtain ⟨i, hi, hg, rfl, S⟩ := hrel
    clear S9
    have h40 : t.length ≤ 40 := HL40.out.2
    have k1c := S.out.kt.c 0 _ rfl
    have k1l := S.out.kt.lt
    by_cases hlt : i < t.length
    · have hltz : (i : Int) < (t.length : Int) := by omega
      have hlt2 : i < y.length := by have := HLEN.out; omega
      have hltz2 : (i : Int) < (y.length : Int) := by omega
      have hi0 : (0 : Int) ≤ (i : Int) := Int.natCast_nonneg _
      have hm9 : t.length - (i + 1) < t.length - i := Nat.sub_lt_sub_left hlt (Nat.lt_succ_self i)
      have k4c := S.out.ku.c 0 _ rfl
      have k4l := S.out.ku.lt
      have hd := S.out.oy.nodc hlt2
      have hs2 : ∃ s, sl2 i = s := ⟨_, rfl⟩
      obtain ⟨⟨e2, d2', a2, x2'⟩, hs2⟩ := hs2
      have N2 := Lib.hid ((S.out.oy.r i hlt2).nodS (S.out.oy.fit i hlt2))
      have Y2 := Lib.hid ((S.out.oy.r i hlt2).byts (S.out.oy.fit i hlt2))
      rw [hs2] at hd N2 Y2
      clear hs2
      obtain ⟨v2, hv2⟩ := HYI.out i
      rw [hv2] at hd N2 Y2
      clear hv2
      simp only at hd N2 Y2
      obtain ⟨b, o, rfl, hbl, ⟨e1, d1', a1, x1'⟩, hcs, N1, Y1⟩ := S.out.ft.oneB hlt
      simp only at hcs N1 Y1
      have N3 := Lib.hid (show NodS wr wr.heap.size e2 d2' a2 x2' (ino t i).nod from ⟨N2.out.es, N2.out.dl, N2.out.dll, N2.out.ac, N2.out.xs, N2.out.k, N2.out.o, N2.out.q, N1.v⟩)
      have Y3 := Lib.hid (show Byts wr wr.heap.size d2' (ino t i).d from Y2.out)
      clear N2 Y2
      have N1 := Lib.hid N1
      have Y1 := Lib.hid Y1
      obtain ⟨ea2, ec2, rfl, _⟩ := id N3.out.es
      obtain ⟨da2, dc2, rfl, _⟩ := id N3.out.dl
      obtain ⟨aa2, ac2, rfl, _⟩ := id N3.out.ac
      obtain ⟨xa2, xc2, rfl, _⟩ := id N3.out.xs
      generalize (ino t i).nod.es.length = le2 at *
      generalize (ino t i).nod.dl = ld2 at *
      generalize (ino t i).nod.ac.length = la2 at *
      generalize (ino t i).nod.xs.length = lx2 at *
      have hg2 := S.out.oy.lt.2
      obtain ⟨yk, hyk⟩ : ∃ yk, (ino t i).k = yk := ⟨_, rfl⟩
      have HYk := Lib.hid hyk
      clear hyk
      obtain ⟨yo, hyo⟩ : ∃ yo, (ino t i).o = yo := ⟨_, rfl⟩
      have HYo := Lib.hid hyo
      clear hyo
      obtain ⟨yq, hyq⟩ : ∃ yq, (ino t i).q = yq := ⟨_, rfl⟩
      have HYq := Lib.hid hyq
      clear hyq
      obtain ⟨yv, hyv⟩ : ∃ yv, (ino t i).v = yv := ⟨_, rfl⟩
      have HYv := Lib.hid hyv
      clear hyv
      have e0 := hd.c0
      have e1c := hd.c1
      have e2c := hd.c2
      have e3c := hd.c3
      have e4c := hd.c4
      have e5c := hd.c5
      have e6c := hd.c6
      have e7c := hd.c7
      change wr.cell? ⟨g2, i * 8, none⟩ = some (.int .i64 (ino t i).k) at e0
      change wr.cell? ⟨g2, i * 8 + 1, none⟩ = some (.int .i64 (ino t i).o) at e1c
      change wr.cell? ⟨g2, i * 8 + 6, none⟩ = some (.int .i64 (ino t i).q) at e6c
      change wr.cell? ⟨g2, i * 8 + 7, none⟩ = some (.int .i64 v2) at e7c
      rw [HYk.out] at e0
      rw [HYo.out] at e1c
      rw [HYq.out] at e6c
      clear hd
      have HCS := Lib.hid hcs
      clear hcs
      have CI := Lib.hid (fun W (hb : Below wr.heap.size wr W) => (show Calls Tryz.prog 24 #[.agg #[.int .i64 yk, .int .i64 yo, (.slice ea2 le2 ec2), (.slice da2 ld2 dc2), (.slice aa2 la2 ac2), (.slice xa2 lx2 xc2), .int .i64 yq, .int .i64 yv], .agg #[.int .i64 yk, .int .i64 yo, e1, d1', a1, x1', .int .i64 yq, .int .i64 yv]] W (fun e w' => e = .returned (.bool true) ∧ Below W.heap.size W w') from by
        have n1 : NodS W W.heap.size e1 d1' a1 x1' (ino t i).nod := N1.out.up hb
        have n2 : NodS W W.heap.size (.slice ea2 le2 ec2) (.slice da2 ld2 dc2) (.slice aa2 la2 ac2) (.slice xa2 lx2 xc2) (ino t i).nod := N3.out.up hb
        have y1 : Byts W W.heap.size d1' (ino t i).d := Y1.out.up hb
        have y2 : Byts W W.heap.size (.slice da2 ld2 dc2) (ino t i).d := Y3.out.up hb
        have h9 := inodesSame_any (ino t i) ⟨(.slice ea2 le2 ec2), (.slice da2 ld2 dc2), (.slice aa2 la2 ac2), (.slice xa2 lx2 xc2)⟩ ⟨e1, d1', a1, x1'⟩ W n2 y2 n1 y1
        simp only at h9
        rw [HYk.out, HYo.out, HYq.out, HYv.out] at h9
        exact h9))
      clear N1 N3 Y1 Y3
      go_upto_region 17 with fail
      have BX := Lib.hid (show Below wr.heap.size wr (wr.alloc (.cells #[.int .i64 yk, .int .i64 yo, (.slice ea2 le2 ec2), (.slice da2 ld2 dc2), (.slice aa2 la2 ac2), (.slice xa2 lx2 xc2), .int .i64 yq, .int .i64 v2] 63)) from (Below.refl _ _).alloc (Nat.le_refl _) _)
      have XB := Lib.hid (show Blk (wr.alloc (.cells #[.int .i64 yk, .int .i64 yo, (.slice ea2 le2 ec2), (.slice da2 ld2 dc2), (.slice aa2 la2 ac2), (.slice xa2 lx2 xc2), .int .i64 yq, .int .i64 v2] 63)) wr.heap.size [.int .i64 yk, .int .i64 yo, (.slice ea2 le2 ec2), (.slice da2 ld2 dc2), (.slice aa2 la2 ac2), (.slice xa2 lx2 xc2), .int .i64 yq, .int .i64 v2] from Blk.new wr [.int .i64 yk, .int .i64 yo, (.slice ea2 le2 ec2), (.slice da2 ld2 dc2), (.slice aa2 la2 ac2), (.slice xa2 lx2 xc2), .int .i64 yq, .int .i64 v2] 63)
      clear e0 e1c e2c e3c e4c e5c e6c e7c k4c k4l k1c k1l hg2
      have HBL := Lib.hid hbl
      have W8 := Lib.hid S.out.kt.lt
      have Wb := Lib.hid hbl
      generalize wr.alloc (.cells #[.int .i64 yk, .int .i64 yo, (.slice ea2 le2 ec2), (.slice da2 ld2 dc2), (.slice aa2 la2 ac2), (.slice xa2 lx2 xc2), .int .i64 yq, .int .i64 v2] 63) = wx at *
      have SX := Lib.hid (S.out.step BX.out)
      have k1c := SX.out.kt.c 0 _ rfl
      have k1l := SX.out.kt.lt
      have hbx : b < wx.heap.size := Nat.lt_of_lt_of_le hbl BX.out.size
      have HC9 := Lib.hid (HCS.out.keep (w' := wx) fun o => BX.out.cell (p := ⟨b, o, none⟩) hbl)
      have c7 := HC9.out.c7
      change wx.cell? ⟨b, o + i * 8 + 7, none⟩ = some (.int .i64 (ino t i).v) at c7
      rw [HYv.out] at c7
      have xz := XB.out.f 7 (by simp)
      have x7 := XB.out.c 7 _ rfl
      have xl := XB.out.lt
      go_upto_region 18 with fail
      have BY := Lib.hid (show Below wr.heap.size wr (wx.setCell ⟨wr.heap.size, 7, none⟩ (.int .i64 yv)) from BX.out.setCell (p := ⟨wr.heap.size, 7, none⟩) (Nat.le_refl _) _)
      have XY := Lib.hid (XB.out.put 7 (.int .i64 yv) (by simp))
      clear xz x7 xl k1c k1l c7 hbx HC9 BX XB SX
      generalize wx.setCell ⟨wr.heap.size, 7, none⟩ (.int .i64 yv) = wy at *
      have SY := Lib.hid (S.out.step BY.out)
      have k1c := SY.out.kt.c 0 _ rfl
      have k1l := SY.out.kt.lt
      have hby : b < wy.heap.size := Nat.lt_of_lt_of_le hbl BY.out.size
      have HC9 := Lib.hid (HCS.out.keep (w' := wy) fun o => BY.out.cell (p := ⟨b, o, none⟩) hbl)
      have xl := XY.out.lt
      have x0 := XY.out.c 0 _ rfl
      have x1 := XY.out.c 1 _ rfl
      have x2 := XY.out.c 2 _ rfl
      have x3 := XY.out.c 3 _ rfl
      have x4 := XY.out.c 4 _ rfl
      have x5 := XY.out.c 5 _ rfl
      have x6 := XY.out.c 6 _ rfl
      have x7 := XY.out.c 7 _ rfl
      have c0 := HC9.out.c0
      have c1 := HC9.out.c1
      have c2 := HC9.out.c2
      have c3 := HC9.out.c3
      have c4 := HC9.out.c4
      have c5 := HC9.out.c5
      have c6 := HC9.out.c6
      have c7 := HC9.out.c7
      change wy.cell? ⟨b, o + i * 8, none⟩ = some (.int .i64 (ino t i).k) at c0
      change wy.cell? ⟨b, o + i * 8 + 1, none⟩ = some (.int .i64 (ino t i).o) at c1
      change wy.cell? ⟨b, o + i * 8 + 6, none⟩ = some (.int .i64 (ino t i).q) at c6
      change wy.cell? ⟨b, o + i * 8 + 7, none⟩ = some (.int .i64 (ino t i).v) at c7
      rw [HYk.out] at c0
      rw [HYo.out] at c1
      rw [HYq.out] at c6
      rw [HYv.out] at c7
      clear HC9 hbl
      go_wp2_with fail
      go_region_with (go_at_call 24; refine (CI.out _ (BY.out.trans ((below_drewN (Below.refl _ _) _).mono BY.out.size))).mono ?_; rintro e zz ⟨rfl, hzz⟩)
      all_goals
        have hz3 : Below wy.heap.size wy zz := by first | exact hzz | exact ((Below.refl wy.heap.size wy).drew).trans hzz | exact (below_drewN (Below.refl wy.heap.size wy) _).trans hzz
        have SZ := Lib.hid (SY.out.step hz3)
        clear hzz hz3 c0 c1 c2 c3 c4 c5 c6 c7 x0 x1 x2 x3 x4 x5 x6 x7 k1c k1l xl
        go_wp2
        go_roundg (t.length - (i + 1))
        case measure => exact Nat.lt_of_lt_of_le hm9 hg
        case rel => exact ⟨i + 1, by omega, by omega, by go_num, SZ.out⟩
    · obtain rfl : i = t.length := by omega
      go_wp2
      go_ret
      exact ⟨rfl, S.out.b⟩

theorem lawRen_any (a : Option Addr) (c : Nat) (t : FT) (r : Rq) (vd va : Value) (w : World) (gm : GM w) (h : FNods w w.heap.size a c t) (hr : RqS w w.heap.size vd va r) :
    Calls Tryz.prog 7 #[.agg #[.slice a t.length c], rqV r vd va] w fun e w' => e = .returned (.bool true) ∧ Below w.heap.size w w' := by
  by_cases hh : (valT (tr t)).1 = 0 ∧ rqC (rqZ r) = 0
  · by_cases hc : (applyF t (rqZ r)).2.c ≠ 0 ∨ r.k ≠ 9
    · exact lawRenErr_any a c t r vd va w gm h hr hh.1 hh.2 hc
    · exact lawRenOk_any a c t r vd va w gm h hr hh.1 hh.2 (Decidable.not_not.1 fun h => hc (.inl h)) (Decidable.not_not.1 fun h => hc (.inr h))
  · exact lawRenBad_any a c t r vd va w gm h hr hh

end Go.Proofs.YtmbbmmnpkdfecaaGreatDoor
