/- What a law of package memfs or of its neighbours needs, at the translation of this seat.
   Condition: as each theorem states; this text: MfLawInc2. -/
import Derived.Test.YtmbbmmnpkdfecaaGreatDoorMnA
import Derived.Test.YtmbbmmnpkdfecaaGreatDoorMfF
import Derived.Deep.RegionHeld3

set_option linter.all false

/- The law MemfsRunIsIncremental at lists of requests that pass: the rest of the list applied one by one answers as the whole run does. Conditions: the requests lie in memory as they read; the door's variable lies in memory. -/

set_option linter.all false
namespace Go.Proofs.YtmbbmmnpkdfecaaGreatDoor
open Go.RowKit

/-- The tree at hand is turned to the next one. -/
theorem INI.next {w wr : World} {B6 M1 n1 R g cap g2 cap2 : Nat} {l : List Rq} {t2 : FT} (h : INI w wr B6 M1 n1 R g cap g2 cap2 l t2) (hM : B6 ≤ M1) (hn : n1 < B6) (hw : w.heap.size ≤ B6) (g3 cap3 : Nat) (t3 : FT)
    (h3 : FNods (wr.setCell ⟨M1, 0, none⟩ (.slice (some ⟨g3, 0, none⟩) t3.length cap3)) (wr.setCell ⟨M1, 0, none⟩ (.slice (some ⟨g3, 0, none⟩) t3.length cap3)).heap.size (some ⟨g3, 0, none⟩) cap3 t3) :
    INI w (wr.setCell ⟨M1, 0, none⟩ (.slice (some ⟨g3, 0, none⟩) t3.length cap3)) B6 M1 n1 R g cap g3 cap3 l t3 := by
  have hb : Below B6 wr (wr.setCell ⟨M1, 0, none⟩ (.slice (some ⟨g3, 0, none⟩) t3.length cap3)) := (Below.refl _ _).setCell (p := ⟨M1, 0, none⟩) hM _
  exact ⟨h.b.setCell (p := ⟨M1, 0, none⟩) (Nat.le_trans hw hM) _, h.kn.put 0 _ (by simp), h3, h.kt.far (p := ⟨M1, 0, none⟩) (by simp; omega) _, h.ot.keep fun b o hb2 => hb.cell (p := ⟨b, o, none⟩) hb2, h.rp.below hb⟩

set_option maxRecDepth 100000 in
set_option maxHeartbeats 6400000 in
theorem lawIncOk_any (a : Option Addr) (c : Nat) (l : List Rq) (k : Nat) (hk : k < 256) (w : World) (gm : GM w) (h : Rqs w w.heap.size a c l) (hl : l.length ≤ 60) (hq : (rqsC l).1 = 0) :
    Calls Tryz.prog 5 #[.slice a l.length c, .int .u8 (k : Int)] w fun e w' => e = .returned (.bool true) ∧ Below w.heap.size w w' := by
  have CE := Lib.hid (fun W (hb : Below w.heap.size w W) => example_any W (gm.below hb))
  have hn : k % (l.length + 1) ≤ l.length := by have := Nat.mod_lt k (show 0 < l.length + 1 by omega); omega
  have C1 := Lib.hid (fun W (hb : Below w.heap.size w W) => runOk_any a c l W (gm.below hb) (h.up hb) hl hq)
  have C2 := Lib.hid (fun n (hn : n ≤ l.length) W (hb : Below w.heap.size w W) => (by
    have e := runOk_any a c (l.take n) W (gm.below hb) ((h.up hb).cut hn) (by rw [List.length_take]; omega) (rqsC_take hq n)
    rw [show (l.take n).length = n by rw [List.length_take]; omega] at e
    exact e))
  have CA := Lib.hid (fun W (hb : Below w.heap.size w W) (a : Option Addr) (c : Nat) (t : FT) (r : Rq) (vd va : Value) (h1 : FNods W W.heap.size a c t) (h2 : RqS W W.heap.size vd va r) (hv : (valT (tr t)).1 = 0) (hq : rqC r = 0) => applyOk_any a c t r vd va W (gm.below hb) h1 h2 hv hq)
  have HR := Lib.hid h
  have QA := Lib.hid (rqsC_all hq)
  have hrem : Int.tmod (k : Int) ((l.length : Int) + 1) = ((k % (l.length + 1) : Nat) : Int) := by
    have := (Int.ofNat_tmod k (l.length + 1)).symm
    rw [show ((l.length + 1 : Nat) : Int) = (l.length : Int) + 1 by omega] at this
    exact this
  clear gm h hq
  go_enter Tryz.func5, Tryz.ntmps5
  go_wp2_with fail
  refine (C1.out _ (Below.refl _ _)).mono ?_
  rintro e z ⟨hbz, g, cap, sl, R, rfl, ho, hRlo, hRl, hrp⟩
  have BZ := Lib.hid hbz
  have OZ := Lib.hid ho
  have RZ := Lib.hid hrp
  clear hbz ho hrp C1
  have HT0 := Lib.hid (show (runF T0 l).1.length = (runF T0 l).1.length from rfl)
  have TN := Lib.hid (two_new z [.slice (some ⟨g, 0, none⟩) (runF T0 l).1.length cap] [.int .i64 0, .int .i64 0] 24 37)
  go_upto_region 2 with fail
  have B5 := Lib.hid (BZ.out.trans (TN.out.1.mono BZ.out.size))
  have O5 := Lib.hid (OZ.out.up TN.out.1)
  have R5 := Lib.hid (RZ.out.up hRl TN.out.1)
  have hRl5 : R < ((z.alloc (.cells #[.slice (some ⟨g, 0, none⟩) (runF T0 l).1.length cap] 24)).alloc (.cells #[.int .i64 0, .int .i64 0] 37)).heap.size := Nat.lt_of_lt_of_le hRl TN.out.1.size
  generalize (z.alloc (.cells #[.slice (some ⟨g, 0, none⟩) (runF T0 l).1.length cap] 24)).alloc (.cells #[.int .i64 0, .int .i64 0] 37) = w5 at *
  generalize z.heap.size + 1 = n2 at *
  generalize z.heap.size = n1 at *
  go_wp2_with fail
  refine (CE.out _ B5.out).mono ?_
  rintro e w6 ⟨rfl, b6⟩
  have B6 := Lib.hid (B5.out.trans (b6.mono B5.out.size))
  obtain ⟨_, TU, TF⟩ := TN.out
  have KT6 := Lib.hid (TU.up b6)
  have hn1B := KT6.out.lt
  have hwB := B6.out.size
  have K3 := TF.up b6
  have f0 := K3.c 0 _ rfl
  have fl := K3.lt
  have O6 := Lib.hid (O5.out.up b6).fnods
  have R6 := Lib.hid ((R5.out.up hRl5 b6).bnd (Nat.lt_of_lt_of_le hRl5 b6.size))
  have hRl6 : R < w6.heap.size := Nat.lt_of_lt_of_le hRl5 b6.size
  clear b6 TU TF K3 TN OZ RZ O5 R5 B5 BZ HT0 hRl hRl5
  have hll : ((l.length : Int) != (l.length : Int)) = false := by simp
  have hw1 : IntKind.i64.wrap ((l.length : Int) + 1) = (l.length : Int) + 1 := IntWalk.i64_in _ (by omega)
  have hne1 : ((l.length : Int) + 1 == 0) = false := by rw [beq_eq_false_iff_ne]; omega
  generalize hkn : k % (l.length + 1) = n at *
  have hw2 : IntKind.i64.wrap (n : Int) = (n : Int) := IntWalk.i64_in _ (by omega)
  have hw3 : IntKind.i64.wrap (k : Int) = (k : Int) := IntWalk.i64_in _ (by omega)
  have hn0 : (0 : Int) ≤ (n : Int) := Int.natCast_nonneg _
  have hnz : (n : Int) ≤ (l.length : Int) := by omega
  have hlc := HR.out.cap
  have hncz : (n : Int) ≤ (c : Int) := by omega
  have C2n := Lib.hid (C2.out n hn)
  clear hkn C2
  go_wp2_with fail
  refine (C2n.out _ B6.out).mono ?_
  rintro e z2 ⟨hbz2, g2, cap2, sl2, R2, rfl, ho2, _, _, _⟩
  have B8 := Lib.hid (B6.out.trans (hbz2.mono B6.out.size))
  have KT8 := Lib.hid (KT6.out.up hbz2)
  have O8 := Lib.hid (O6.out.keep fun b o hb2 => hbz2.cell (p := ⟨b, o, none⟩) hb2)
  have R8 := Lib.hid (R6.out.below hbz2)
  have O28 := Lib.hid ho2.fnods
  have hBM : w6.heap.size ≤ z2.heap.size := hbz2.size
  clear hbz2 ho2 KT6 O6 R6 B6 f0 fl C2n CE
  have TN2 := Lib.hid (two_new z2 [.slice (some ⟨g2, 0, none⟩) (runF T0 (l.take n)).1.length cap2] [.int .i64 0, .int .i64 0] 24 37)
  go_upto_region 10 with fail
  have I9 := Lib.hid (show INI w ((z2.alloc (.cells #[.slice (some ⟨g2, 0, none⟩) (runF T0 (l.take n)).1.length cap2] 24)).alloc (.cells #[.int .i64 0, .int .i64 0] 37)) w6.heap.size z2.heap.size n1 R g cap g2 cap2 l (runF T0 (l.take n)).1 from
    ⟨B8.out.trans (TN2.out.1.mono B8.out.size), TN2.out.2.1, O28.out.up TN2.out.1, KT8.out.up TN2.out.1, O8.out.keep fun b o hb2 => (TN2.out.1.mono hBM).cell (p := ⟨b, o, none⟩) hb2, R8.out.below (TN2.out.1.mono hBM)⟩)
  have q0 := TN2.out.2.2.c 0 _ rfl
  have ql := TN2.out.2.2.lt
  have hB9 : w6.heap.size ≤ ((z2.alloc (.cells #[.slice (some ⟨g2, 0, none⟩) (runF T0 (l.take n)).1.length cap2] 24)).alloc (.cells #[.int .i64 0, .int .i64 0] 37)).heap.size := Nat.le_trans hBM TN2.out.1.size
  generalize (z2.alloc (.cells #[.slice (some ⟨g2, 0, none⟩) (runF T0 (l.take n)).1.length cap2] 24)).alloc (.cells #[.int .i64 0, .int .i64 0] 37) = w9 at *
  generalize z2.heap.size + 1 = M2 at *
  generalize z2.heap.size = M1 at *
  generalize w6.heap.size = B6 at *
  clear TN2 B8 KT8 O8 R8 O28 hll hw1 hne1 hw2 hw3 hrem
  go_wp2_with fail
  clear q0 ql
  have HCF := CA
  go_loopg [12, 13, 14, 15] (l.length - n) (fun gg s12 _ _ _ wr => ∃ (i g2 cap2 : Nat), n ≤ i ∧ i ≤ l.length ∧ l.length - i ≤ gg ∧ s12 = .int .i64 i ∧ B6 ≤ wr.heap.size ∧ Aside (INI w wr B6 M1 n1 R g cap g2 cap2 l (runF T0 (l.take i)).1))
  case atStart => exact ⟨n, g2, cap2, Nat.le_refl _, hn, by omega, rfl, hB9, I9.out⟩
  case round =>
    obtain ⟨i, g2, cap2, hni, hi, hg, rfl, hBr, I⟩ := hrel
    clear I9 hB9
    have kc := I.out.kn.c 0 _ rfl
    have kl := I.out.kn.lt
    by_cases hlt : i < l.length
    · have hltz : (i : Int) < (l.length : Int) := by omega
      have hi0 : (0 : Int) ≤ (i : Int) := Int.natCast_nonneg _
      have hm9 : l.length - (i + 1) < l.length - i := Nat.sub_lt_sub_left hlt (Nat.lt_succ_self i)
      obtain ⟨b, o, rfl, hb, hj⟩ := (HR.out.up I.out.b).at_ (by omega)
      obtain ⟨vd, va, hc, hs⟩ := hj i hlt
      obtain ⟨qa, qc, rfl, hqd⟩ := id hs.d
      obtain ⟨pa, pc, rfl, hpd⟩ := id hs.ac
      clear hqd hpd
      obtain ⟨c0, c1, c2, c3, c4, c5, c6, c7, c8, c9⟩ := hc
      have HQ := QA.out i hlt
      have HTK := Lib.hid (take_run hlt T0)
      have HRP := Lib.hid (run_reply hlt T0)
      have HV := run_valid (l.take i) t0_valid
      have CAi := Lib.hid (fun W (hbW : Below wr.heap.size wr W) => CA.out W (I.out.b.trans (hbW.mono I.out.b.size)) (some ⟨g2, 0, none⟩) cap2 (runF T0 (l.take i)).1 (l.getD i R0) _ _ (I.out.on.up hbW) (hs.up hbW) HV HQ)
      unfold rpV rqV at CAi
      clear hj hs HQ HV
      generalize l.getD i R0 = r at *
      generalize applyF (runF T0 (l.take i)).1 r = AF at *
      obtain ⟨tn, p⟩ := AF
      simp only at CAi HTK HRP
      generalize (runF T0 (l.take i)).1 = tk at *
      go_upto_region 15 with fail
      go_cut [13, 14, 15] from 59 to 69 (fun s13 s14 s15 wx => ∃ (b13 b14 b15 g3 cap3 : Nat) (sl3 : Nat → Sl) (da : Option Addr) (dc : Nat) (na : Option Addr) (nc : Nat), s13 = .pointer (some ⟨b13, 0, none⟩) ∧ s14 = .pointer (some ⟨b14, 0, none⟩) ∧ s15 = .pointer (some ⟨b15, 0, none⟩) ∧ Below wr.heap.size wr wx ∧ Blk wx b13 [.slice (some ⟨g3, 0, none⟩) tn.length cap3] ∧ Blk wx b14 [.int .i64 p.c, .slice da p.d.length dc, .slice na p.ns.length nc, .int .i64 p.s.i, .int .i64 p.s.k, .int .i64 p.s.o, .int .i64 p.s.z, .int .i64 p.s.l, .int .i64 p.s.v] ∧ Blk wx b15 [.int .i64 0, .int .i64 0] ∧ OT wx wr.heap.size g3 cap3 sl3 tn ∧ Byts wx wx.heap.size (.slice da p.d.length dc) p.d ∧ Strs wx wx.heap.size (.slice na p.ns.length nc) p.ns)
      case first =>
        have K := Lib.hid (fun y (hy : Below wr.heap.size wr y) => (show Below wr.heap.size wr y ∧ y.cell? ⟨M1, 0, none⟩ = some (.slice (some ⟨g2, 0, none⟩) tk.length cap2) ∧ y.cell? ⟨b, o + i * 10, none⟩ = some (.int .i64 r.k) ∧ y.cell? ⟨b, o + i * 10 + 1, none⟩ = some (.int .i64 r.u) ∧ y.cell? ⟨b, o + i * 10 + 2, none⟩ = some (.string r.p) ∧ y.cell? ⟨b, o + i * 10 + 3, none⟩ = some (.string r.t) ∧ y.cell? ⟨b, o + i * 10 + 4, none⟩ = some (.int .i64 r.off) ∧ y.cell? ⟨b, o + i * 10 + 5, none⟩ = some (.int .i64 r.sz) ∧ y.cell? ⟨b, o + i * 10 + 6, none⟩ = some (.slice qa r.d.length qc) ∧ y.cell? ⟨b, o + i * 10 + 7, none⟩ = some (.slice pa r.ac.length pc) ∧ y.cell? ⟨b, o + i * 10 + 8, none⟩ = some (.string r.a.n) ∧ y.cell? ⟨b, o + i * 10 + 9, none⟩ = some (.string r.a.v) from ⟨hy, (hy.cell (p := ⟨M1, 0, none⟩) kl).trans kc, (hy.cell (p := ⟨b, o + i * 10, none⟩) hb).trans c0, (hy.cell (p := ⟨b, o + i * 10 + 1, none⟩) hb).trans c1, (hy.cell (p := ⟨b, o + i * 10 + 2, none⟩) hb).trans c2, (hy.cell (p := ⟨b, o + i * 10 + 3, none⟩) hb).trans c3, (hy.cell (p := ⟨b, o + i * 10 + 4, none⟩) hb).trans c4, (hy.cell (p := ⟨b, o + i * 10 + 5, none⟩) hb).trans c5, (hy.cell (p := ⟨b, o + i * 10 + 6, none⟩) hb).trans c6, (hy.cell (p := ⟨b, o + i * 10 + 7, none⟩) hb).trans c7, (hy.cell (p := ⟨b, o + i * 10 + 8, none⟩) hb).trans c8, (hy.cell (p := ⟨b, o + i * 10 + 9, none⟩) hb).trans c9⟩))
        have z0 : Below wr.heap.size wr wr.drew := (Below.refl _ _).drew
        have HSM := Lib.hid (show ∀ y z : World, (fun y => Below wr.heap.size wr y ∧ y.cell? ⟨M1, 0, none⟩ = some (.slice (some ⟨g2, 0, none⟩) tk.length cap2) ∧ y.cell? ⟨b, o + i * 10, none⟩ = some (.int .i64 r.k) ∧ y.cell? ⟨b, o + i * 10 + 1, none⟩ = some (.int .i64 r.u) ∧ y.cell? ⟨b, o + i * 10 + 2, none⟩ = some (.string r.p) ∧ y.cell? ⟨b, o + i * 10 + 3, none⟩ = some (.string r.t) ∧ y.cell? ⟨b, o + i * 10 + 4, none⟩ = some (.int .i64 r.off) ∧ y.cell? ⟨b, o + i * 10 + 5, none⟩ = some (.int .i64 r.sz) ∧ y.cell? ⟨b, o + i * 10 + 6, none⟩ = some (.slice qa r.d.length qc) ∧ y.cell? ⟨b, o + i * 10 + 7, none⟩ = some (.slice pa r.ac.length pc) ∧ y.cell? ⟨b, o + i * 10 + 8, none⟩ = some (.string r.a.n) ∧ y.cell? ⟨b, o + i * 10 + 9, none⟩ = some (.string r.a.v)) y → Gr y z → (fun y => Below wr.heap.size wr y ∧ y.cell? ⟨M1, 0, none⟩ = some (.slice (some ⟨g2, 0, none⟩) tk.length cap2) ∧ y.cell? ⟨b, o + i * 10, none⟩ = some (.int .i64 r.k) ∧ y.cell? ⟨b, o + i * 10 + 1, none⟩ = some (.int .i64 r.u) ∧ y.cell? ⟨b, o + i * 10 + 2, none⟩ = some (.string r.p) ∧ y.cell? ⟨b, o + i * 10 + 3, none⟩ = some (.string r.t) ∧ y.cell? ⟨b, o + i * 10 + 4, none⟩ = some (.int .i64 r.off) ∧ y.cell? ⟨b, o + i * 10 + 5, none⟩ = some (.int .i64 r.sz) ∧ y.cell? ⟨b, o + i * 10 + 6, none⟩ = some (.slice qa r.d.length qc) ∧ y.cell? ⟨b, o + i * 10 + 7, none⟩ = some (.slice pa r.ac.length pc) ∧ y.cell? ⟨b, o + i * 10 + 8, none⟩ = some (.string r.a.n) ∧ y.cell? ⟨b, o + i * 10 + 9, none⟩ = some (.string r.a.v)) z from fun y z h g => K.out z (h.1.trans (g.mono h.1.size)))
        refine wp_region_held_drew (S := (fun y => Below wr.heap.size wr y ∧ y.cell? ⟨M1, 0, none⟩ = some (.slice (some ⟨g2, 0, none⟩) tk.length cap2) ∧ y.cell? ⟨b, o + i * 10, none⟩ = some (.int .i64 r.k) ∧ y.cell? ⟨b, o + i * 10 + 1, none⟩ = some (.int .i64 r.u) ∧ y.cell? ⟨b, o + i * 10 + 2, none⟩ = some (.string r.p) ∧ y.cell? ⟨b, o + i * 10 + 3, none⟩ = some (.string r.t) ∧ y.cell? ⟨b, o + i * 10 + 4, none⟩ = some (.int .i64 r.off) ∧ y.cell? ⟨b, o + i * 10 + 5, none⟩ = some (.int .i64 r.sz) ∧ y.cell? ⟨b, o + i * 10 + 6, none⟩ = some (.slice qa r.d.length qc) ∧ y.cell? ⟨b, o + i * 10 + 7, none⟩ = some (.slice pa r.ac.length pc) ∧ y.cell? ⟨b, o + i * 10 + 8, none⟩ = some (.string r.a.n) ∧ y.cell? ⟨b, o + i * 10 + 9, none⟩ = some (.string r.a.v))) (by kernel_rfl) (K.out _ z0) (fun hHeld => ?_)
        refine wpAnyH_take (i := 0) (oi := { dst := some 60, op := Op.load 24 (Operand.tmp 9), type := 24, pos := "memfs.go:108", after := #[], guard := none }) (v := ?vp0) rfl (by kernel_rfl) (by kernel_rfl) (by kernel_rfl) (fun _ _ _ h => h) (Or.inl ⟨by rfl, ?yp0⟩) (by assumption) ?rp0
        case yp0 =>
          intro wz hSw
          try dsimp only at hSw
          go_simp
          try with_reducible rfl
        try simp only [Act.put, List.setIfInBounds_toArray, List.set_cons_zero, List.set_cons_succ]
        refine wpAnyH_take (i := 1) (oi := { dst := some 61, op := Op.move (Operand.tmp 0), type := 48, pos := "memfs.go:108", after := #[], guard := none }) (v := ?vp1) rfl (by kernel_rfl) (by kernel_rfl) (by kernel_rfl) (fun _ _ _ h => h) (Or.inl ⟨by rfl, ?yp1⟩) (by assumption) ?rp1
        case yp1 =>
          intro wz hSw
          try dsimp only at hSw
          go_simp
          try with_reducible rfl
        try simp only [Act.put, List.setIfInBounds_toArray, List.set_cons_zero, List.set_cons_succ]
        refine wpAnyH_take (i := 2) (oi := { dst := some 62, op := Op.move (Operand.tmp 12), type := 3, pos := "memfs.go:108", after := #[], guard := none }) (v := ?vp2) rfl (by kernel_rfl) (by kernel_rfl) (by kernel_rfl) (fun _ _ _ h => h) (Or.inl ⟨by rfl, ?yp2⟩) (by assumption) ?rp2
        case yp2 =>
          intro wz hSw
          try dsimp only at hSw
          go_simp
          try with_reducible rfl
        try simp only [Act.put, List.setIfInBounds_toArray, List.set_cons_zero, List.set_cons_succ]
        refine wpAnyH_take (i := 3) (oi := { dst := some 63, op := Op.indexAddr 48 (Operand.tmp 61) (Operand.tmp 62), type := 0, pos := "memfs.go:108", after := #[{ on := 1, ground := Ground.data }, { on := 2, ground := Ground.data }], guard := none }) (v := ?vp3) rfl (by kernel_rfl) (by kernel_rfl) (by kernel_rfl) (fun _ _ _ h => h) (Or.inl ⟨by rfl, ?yp3⟩) (by assumption) ?rp3
        case yp3 =>
          intro wz hSw
          try dsimp only at hSw
          go_simp
          try with_reducible rfl
        try simp only [Act.put, List.setIfInBounds_toArray, List.set_cons_zero, List.set_cons_succ]
        refine wpAnyH_take (i := 4) (oi := { dst := some 64, op := Op.load 30 (Operand.tmp 63), type := 30, pos := "memfs.go:108", after := #[{ on := 3, ground := Ground.data }], guard := none }) (v := ?vp4) rfl (by kernel_rfl) (by kernel_rfl) (by kernel_rfl) (fun _ _ _ h => h) (Or.inl ⟨by rfl, ?yp4⟩) (by assumption) ?rp4
        case yp4 =>
          intro wz hSw
          try dsimp only at hSw
          go_simp
          try with_reducible rfl
        try simp only [Act.put, List.setIfInBounds_toArray, List.set_cons_zero, List.set_cons_succ]
        refine float_any (D := [(10, 13, .cells #[.slice none 0 0] 24), (11, 14, .cells #[.int .i64 0, .slice none 0 0, .slice none 0 0, .int .i64 0, .int .i64 0, .int .i64 0, .int .i64 0, .int .i64 0, .int .i64 0] 35), (12, 15, .cells #[.int .i64 0, .int .i64 0] 37)]) (Z := [13, 14, 15]) (Ps := [8, 9]) (n := 5) (fz := 3) (by kernel_rfl) (by simp) ⟨⟨_, rfl, fun w9 => alloc_tree w9⟩, ⟨⟨_, rfl, fun w9 => alloc_reply w9⟩, ⟨⟨_, rfl, fun w9 => alloc_fault w9⟩, trivial⟩⟩⟩ (fun _ _ _ _ _ => ⟨fun h => h, fun h => h⟩) HSM.out (by assumption) rfl (by kernel_rfl) (by first | decide | simp) ?_
        have hG0 := Lib.hid (g_start wr.drew)
        refine wpF_one (j := 5) (o := { dst := some 65, op := Op.call { callee := Callee.value (Operand.func 12), args := #[Operand.tmp 60, Operand.tmp 64], argTypes := #[24, 30] }, type := 38, pos := "memfs.go:108", after := #[{ on := 0, ground := Ground.data }, { on := 4, ground := Ground.data }], guard := none }) (by kernel_rfl) (by kernel_rfl) rfl HSM.out (by assumption) (fun x5 g5 s5 K9 hK9 => ?_)
        go_simp
        refine (CAi.out _ s5.1).mono ?_
        rintro e z ⟨hbz, g3, cap3, sl3, vd3, vn3, rfl, ho3, hs3⟩
        obtain ⟨da, dc, rfl, _⟩ := id hs3.d
        obtain ⟨na, nc, rfl, _⟩ := id hs3.ns
        have HO3 := Lib.hid ho3
        have HS3 := Lib.hid hs3
        clear ho3 hs3
        try go_wp2_with fail
        have gr5 := hbz
        have hG5 := Lib.hid (g_step hG0.out g5 gr5)
        refine hK9.out _ _ gr5 (fun hS5 => ?_)
        clear hK9 K9
        try simp only [Act.put, List.setIfInBounds_toArray, List.set_cons_zero, List.set_cons_succ]
        refine wpF_take (i := 6) (oi := { dst := some 59, op := Op.move (Operand.tmp 65), type := 38, pos := "memfs.go:108", after := #[{ on := 5, ground := Ground.data }], guard := none }) (v := ?vp6) HSM.out rfl (by kernel_rfl) (by kernel_rfl) (by kernel_rfl) (fun _ _ _ h => h) (Or.inl ⟨by rfl, ?yp6⟩) (by assumption) hG5.out ?rp6
        case yp6 =>
          intro wz hSw
          try dsimp only at hSw
          go_simp
          try with_reducible rfl
        try simp only [Act.put, List.setIfInBounds_toArray, List.set_cons_zero, List.set_cons_succ]
        refine wpF_take (i := 7) (oi := { dst := some 66, op := Op.extract (Operand.tmp 59) 0, type := 24, pos := "memfs.go:108", after := #[{ on := 6, ground := Ground.data }], guard := none }) (v := ?vp7) HSM.out rfl (by kernel_rfl) (by kernel_rfl) (by kernel_rfl) (fun _ _ _ h => h) (Or.inl ⟨by rfl, ?yp7⟩) (by assumption) hG5.out ?rp7
        case yp7 =>
          intro wz hSw
          try dsimp only at hSw
          go_simp
          try with_reducible rfl
        try simp only [Act.put, List.setIfInBounds_toArray, List.set_cons_zero, List.set_cons_succ]
        refine wpF_take (i := 8) (oi := { dst := some 67, op := Op.extract (Operand.tmp 59) 1, type := 35, pos := "memfs.go:108", after := #[{ on := 6, ground := Ground.data }, { on := 13, ground := Ground.gcOnly Departure.lateStores }], guard := none }) (v := ?vp8) HSM.out rfl (by kernel_rfl) (by kernel_rfl) (by kernel_rfl) (fun _ _ _ h => h) (Or.inl ⟨by rfl, ?yp8⟩) (by assumption) hG5.out ?rp8
        case yp8 =>
          intro wz hSw
          try dsimp only at hSw
          go_simp
          try with_reducible rfl
        try simp only [Act.put, List.setIfInBounds_toArray, List.set_cons_zero, List.set_cons_succ]
        refine wpF_take (i := 9) (oi := { dst := some 68, op := Op.extract (Operand.tmp 59) 2, type := 37, pos := "memfs.go:108", after := #[{ on := 6, ground := Ground.data }, { on := 14, ground := Ground.gcOnly Departure.lateStores }], guard := none }) (v := ?vp9) HSM.out rfl (by kernel_rfl) (by kernel_rfl) (by kernel_rfl) (fun _ _ _ h => h) (Or.inl ⟨by rfl, ?yp9⟩) (by assumption) hG5.out ?rp9
        case yp9 =>
          intro wz hSw
          try dsimp only at hSw
          go_simp
          try with_reducible rfl
        try simp only [Act.put, List.setIfInBounds_toArray, List.set_cons_zero, List.set_cons_succ]
        refine wpF_done (by kernel_rfl) (fun x9 g9 s9 bf hbf hne => ?_)
        obtain ⟨lo10, h10, ng10⟩ := hbf _ (List.mem_cons_self ..)
        obtain ⟨lo11, h11, ng11⟩ := hbf _ (List.mem_cons_of_mem _ (List.mem_cons_self ..))
        obtain ⟨lo12, h12, ng12⟩ := hbf _ (List.mem_cons_of_mem _ (List.mem_cons_of_mem _ (List.mem_cons_self ..)))
        clear hbf
        simp at hne
        simp only [setD, putD, List.foldl_cons, List.foldl_nil, ptr]
        dsimp only at lo10 h10 ng10 lo11 h11 ng11 lo12 h12 ng12
        generalize bf 10 = p10 at *
        generalize bf 11 = p11 at *
        generalize bf 12 = p12 at *
        try simp only [Act.put, List.setIfInBounds_toArray, List.set_cons_zero, List.set_cons_succ]
        have B9 := s9.1
        have K17 := blk_of_heap (l := [.slice none 0 0]) h10
        have K18 := blk_of_heap (l := [.int .i64 0, .slice none 0 0, .slice none 0 0, .int .i64 0, .int .i64 0, .int .i64 0, .int .i64 0, .int .i64 0, .int .i64 0]) h11
        have K19 := blk_of_heap (l := [.int .i64 0, .int .i64 0]) h12
        have lo17 : wr.heap.size ≤ p10 := lo10
        have lo18 : wr.heap.size ≤ p11 := lo11
        have lo19 : wr.heap.size ≤ p12 := lo12
        have n1 : p11 ≠ p10 := fun h => hne.1.1 h.symm
        have n2 : p12 ≠ p10 := fun h => hne.1.2 h.symm
        have n3 : p12 ≠ p11 := fun h => hne.2 h.symm
        have o1 := out_one ng10
        have o2 := out_one ng11
        have o3 := out_one ng12
        clear hne ng10 ng11 ng12
        have SP := Lib.hid ((((Span.gr x5.heap.size g9).set (p := ⟨p10, 0, none⟩) o1 (.slice (some ⟨g3, 0, none⟩) tn.length cap3)).set9 o2 (.int .i64 p.c) (.slice da p.d.length dc) (.slice na p.ns.length nc) (.int .i64 p.s.i) (.int .i64 p.s.k) (.int .i64 p.s.o) (.int .i64 p.s.z) (.int .i64 p.s.l) (.int .i64 p.s.v)).set (p := ⟨p12, 0, none⟩) o3 (.int .i64 0) |>.set (p := ⟨p12, 1, none⟩) o3 (.int .i64 0))
        have hzx := Lib.hid g9.size
        have c17 := K17.c 0 _ rfl
        have l17 := K17.lt
        have z17 := frozen_of_heap h10
        have z18 := frozen_of_heap h11
        have z19 := frozen_of_heap h12
        have l18 := K18.lt
        have l19 := K19.lt
        have K17b := Lib.hid (K17.put 0 (.slice (some ⟨g3, 0, none⟩) tn.length cap3) (by simp))
        have N1 := Lib.hid n1
        have N2 := Lib.hid n2
        have N3 := Lib.hid n3
        clear h10 h11 h12 o1 o2 o3
        refine wpAnyH_ready (rs := [13]) (by kernel_rfl) (by simp) ?_
        refine AllReadyH.cons (o := { dst := none, op := Op.store 24 (Operand.tmp 13) (Operand.tmp 66), type := 0, pos := "memfs.go:108", after := #[{ on := 10, ground := Ground.data }, { on := 7, ground := Ground.data }, { on := 5, ground := Ground.chain }, { on := 0, ground := Ground.phase }, { on := 1, ground := Ground.phase }, { on := 2, ground := Ground.phase }, { on := 3, ground := Ground.phase }, { on := 4, ground := Ground.phase }, { on := 5, ground := Ground.phase }, { on := 6, ground := Ground.phase }, { on := 7, ground := Ground.phase }, { on := 8, ground := Ground.textOnly Departure.lateStores }, { on := 9, ground := Ground.textOnly Departure.lateStores }, { on := 10, ground := Ground.phase }, { on := 11, ground := Ground.phase }, { on := 12, ground := Ground.phase }], guard := none }) rfl (fun K9 hK9 => ?_) AllReadyH.nil
        go_simp
        refine hK9.out _ _ (K.out _ (B9.setCell (p := ⟨p10, 0, none⟩) lo17 (.slice (some ⟨g3, 0, none⟩) tn.length cap3))) (fun hT13 => ?_)
        clear hK9 K9
        try simp only [Act.put, List.setIfInBounds_toArray, List.set_cons_zero, List.set_cons_succ]
        have B10 := hT13.1
        have K18b := K18.far (p := ⟨p10, 0, none⟩) n1 (.slice (some ⟨g3, 0, none⟩) tn.length cap3)
        have K19b := K19.far (p := ⟨p10, 0, none⟩) n2 (.slice (some ⟨g3, 0, none⟩) tn.length cap3)
        clear K18 K19 K17 c17
        have c18_0 := K18b.c 0 _ rfl
        have c18_1 := K18b.c 1 _ rfl
        have c18_2 := K18b.c 2 _ rfl
        have c18_3 := K18b.c 3 _ rfl
        have c18_4 := K18b.c 4 _ rfl
        have c18_5 := K18b.c 5 _ rfl
        have c18_6 := K18b.c 6 _ rfl
        have c18_7 := K18b.c 7 _ rfl
        have c18_8 := K18b.c 8 _ rfl
        refine wpAnyH_ready (rs := [14]) (by kernel_rfl) (by simp) ?_
        refine AllReadyH.cons (o := { dst := none, op := Op.store 35 (Operand.tmp 14) (Operand.tmp 67), type := 0, pos := "memfs.go:108", after := #[{ on := 11, ground := Ground.data }, { on := 8, ground := Ground.data }, { on := 13, ground := Ground.chain }, { on := 0, ground := Ground.phase }, { on := 1, ground := Ground.phase }, { on := 2, ground := Ground.phase }, { on := 3, ground := Ground.phase }, { on := 4, ground := Ground.phase }, { on := 5, ground := Ground.phase }, { on := 6, ground := Ground.phase }, { on := 7, ground := Ground.phase }, { on := 8, ground := Ground.phase }, { on := 9, ground := Ground.textOnly Departure.lateStores }, { on := 10, ground := Ground.phase }, { on := 11, ground := Ground.phase }, { on := 12, ground := Ground.phase }, { on := 13, ground := Ground.phase }], guard := none }) rfl (fun K9 hK9 => ?_) AllReadyH.nil
        go_simp
        refine hK9.out _ _ (K.out _ (below9 B10 lo18 (.int .i64 p.c) (.slice da p.d.length dc) (.slice na p.ns.length nc) (.int .i64 p.s.i) (.int .i64 p.s.k) (.int .i64 p.s.o) (.int .i64 p.s.z) (.int .i64 p.s.l) (.int .i64 p.s.v))) (fun hT14 => ?_)
        clear hK9 K9
        try simp only [Act.put, List.setIfInBounds_toArray, List.set_cons_zero, List.set_cons_succ]
        have B11 := hT14.1
        have K19c := K19b.far9 n3 (.int .i64 p.c) (.slice da p.d.length dc) (.slice na p.ns.length nc) (.int .i64 p.s.i) (.int .i64 p.s.k) (.int .i64 p.s.o) (.int .i64 p.s.z) (.int .i64 p.s.l) (.int .i64 p.s.v)
        have K18c := Lib.hid (store9 K18b rfl B10 lo18 (.int .i64 p.c) (.slice da p.d.length dc) (.slice na p.ns.length nc) (.int .i64 p.s.i) (.int .i64 p.s.k) (.int .i64 p.s.o) (.int .i64 p.s.z) (.int .i64 p.s.l) (.int .i64 p.s.v)).1
        clear K18b K19b c18_0 c18_1 c18_2 c18_3 c18_4 c18_5 c18_6 c18_7 c18_8
        have c19_0 := K19c.c 0 _ rfl
        have c19_1 := K19c.c 1 _ rfl
        refine wpAnyH_ready (rs := [15]) (by kernel_rfl) (by simp) ?_
        refine AllReadyH.cons (o := { dst := none, op := Op.store 37 (Operand.tmp 15) (Operand.tmp 68), type := 0, pos := "memfs.go:108", after := #[{ on := 12, ground := Ground.data }, { on := 9, ground := Ground.data }, { on := 14, ground := Ground.chain }, { on := 0, ground := Ground.phase }, { on := 1, ground := Ground.phase }, { on := 2, ground := Ground.phase }, { on := 3, ground := Ground.phase }, { on := 4, ground := Ground.phase }, { on := 5, ground := Ground.phase }, { on := 6, ground := Ground.phase }, { on := 7, ground := Ground.phase }, { on := 8, ground := Ground.phase }, { on := 9, ground := Ground.phase }, { on := 10, ground := Ground.phase }, { on := 11, ground := Ground.phase }, { on := 12, ground := Ground.phase }, { on := 13, ground := Ground.phase }, { on := 14, ground := Ground.phase }], guard := none }) rfl (fun K9 hK9 => ?_) AllReadyH.nil
        go_simp
        refine hK9.out _ _ (K.out _ ((B11.setCell (p := ⟨p12, 0, none⟩) lo19 (.int .i64 0)).setCell (p := ⟨p12, 1, none⟩) lo19 (.int .i64 0))) (fun hT15 => ?_)
        clear hK9 K9
        try simp only [Act.put, List.setIfInBounds_toArray, List.set_cons_zero, List.set_cons_succ]
        refine wpAnyH_done (by kernel_rfl) ?_ _
        have K17d := ((K17b.out.far9 (fun h => N1.out h.symm) (.int .i64 p.c) (.slice da p.d.length dc) (.slice na p.ns.length nc) (.int .i64 p.s.i) (.int .i64 p.s.k) (.int .i64 p.s.o) (.int .i64 p.s.z) (.int .i64 p.s.l) (.int .i64 p.s.v)).far (p := ⟨p12, 0, none⟩) (fun h => N2.out h.symm) (.int .i64 0)).far (p := ⟨p12, 1, none⟩) (fun h => N2.out h.symm) (.int .i64 0)
        have K18d := (K18c.out.far (p := ⟨p12, 0, none⟩) (fun h => N3.out h.symm) (.int .i64 0)).far (p := ⟨p12, 1, none⟩) (fun h => N3.out h.symm) (.int .i64 0)
        have K19d := (K19c.put 0 (.int .i64 0) (by simp)).put 1 (.int .i64 0) (by simp)
        have OTd := Lib.hid ((HO3.out.span SP.out).lower s5.1.size)
        have HSd := Lib.hid (HS3.out.span SP.out (by simpa using hzx.out))
        go_wp2_with fail
        go_meet
        exact ⟨_, _, _, g3, cap3, sl3, da, dc, na, nc, rfl, rfl, rfl, hT15.1, K17d, K18d, K19d, OTd.out, HSd.out.d, HSd.out.ns⟩
      case rest =>
        obtain ⟨b13, b14, b15, g3, cap3, sl3, da, dc, na, nc, rfl, rfl, rfl, bx, k13, k14, k15, o3, y3, s3⟩ := hcut
        obtain ⟨w8, rfl⟩ : ∃ w8 : World, w8 = wc := ⟨_, rfl⟩
        have hB8 : B6 ≤ w8.heap.size := Nat.le_trans hBr bx.size
        have hMl := I.out.kn.lt
        have HTK := Lib.hid (congrArg Prod.fst HTK.out)
        have I8 := Lib.hid (I.out.step hBr bx)
        have HRB := I8.out.rp.1
        obtain ⟨vd9, vn9, hc9, y9, s9⟩ := I8.out.rp.2 i (by rw [run_len]; exact hlt)
        rw [HRP.out] at hc9 y9 s9
        obtain ⟨e0, e1, e2, e3, e4, e5, e6, e7, e8⟩ := hc9
        have K13 := Lib.hid k13
        have K14 := Lib.hid k14
        have K15 := Lib.hid k15
        have HO := Lib.hid o3
        have CR := Lib.hid (fun W (hb : Below w8.heap.size w8 W) => repliesSame_any p (.slice da p.d.length dc) vd9 (.slice na p.ns.length nc) vn9 W W.heap.size W.heap.size (Nat.le_refl _) (Nat.le_refl _) (y3.up hb) ((y9.more hB8).up hb) (s3.up hb) ((s9.more hB8).up hb))
        unfold rpV at CR
        obtain ⟨ud, uc9, rfl, _⟩ := id y9
        obtain ⟨un, uc8, rfl, _⟩ := id s9
        have hR8 : R < w8.heap.size := Nat.lt_of_lt_of_le HRB hB8
        have l13 := K13.out.lt
        have l14 := K14.out.lt
        have l15 := K15.out.lt
        have lM := I8.out.kn.lt
        have zM := I8.out.kn.f 0 (by simp)
        have cM := I8.out.kn.c 0 _ rfl
        have K := Lib.hid (fun y (hy : Below w8.heap.size w8 y) => (show Below w8.heap.size w8 y ∧ y.cell? ⟨b15, 0, none⟩ = some (.int .i64 0) ∧ y.cell? ⟨b14, 0, none⟩ = some (.int .i64 p.c) ∧ y.cell? ⟨b14, 1, none⟩ = some (.slice da p.d.length dc) ∧ y.cell? ⟨b14, 2, none⟩ = some (.slice na p.ns.length nc) ∧ y.cell? ⟨b14, 3, none⟩ = some (.int .i64 p.s.i) ∧ y.cell? ⟨b14, 4, none⟩ = some (.int .i64 p.s.k) ∧ y.cell? ⟨b14, 5, none⟩ = some (.int .i64 p.s.o) ∧ y.cell? ⟨b14, 6, none⟩ = some (.int .i64 p.s.z) ∧ y.cell? ⟨b14, 7, none⟩ = some (.int .i64 p.s.l) ∧ y.cell? ⟨b14, 8, none⟩ = some (.int .i64 p.s.v) ∧ y.cell? ⟨R, i * 9, none⟩ = some (.int .i64 p.c) ∧ y.cell? ⟨R, i * 9 + 1, none⟩ = some (.slice ud p.d.length uc9) ∧ y.cell? ⟨R, i * 9 + 2, none⟩ = some (.slice un p.ns.length uc8) ∧ y.cell? ⟨R, i * 9 + 3, none⟩ = some (.int .i64 p.s.i) ∧ y.cell? ⟨R, i * 9 + 4, none⟩ = some (.int .i64 p.s.k) ∧ y.cell? ⟨R, i * 9 + 5, none⟩ = some (.int .i64 p.s.o) ∧ y.cell? ⟨R, i * 9 + 6, none⟩ = some (.int .i64 p.s.z) ∧ y.cell? ⟨R, i * 9 + 7, none⟩ = some (.int .i64 p.s.l) ∧ y.cell? ⟨R, i * 9 + 8, none⟩ = some (.int .i64 p.s.v) from ⟨hy, (K15.out.up hy).c 0 _ rfl, (K14.out.up hy).c 0 _ rfl, (K14.out.up hy).c 1 _ rfl, (K14.out.up hy).c 2 _ rfl, (K14.out.up hy).c 3 _ rfl, (K14.out.up hy).c 4 _ rfl, (K14.out.up hy).c 5 _ rfl, (K14.out.up hy).c 6 _ rfl, (K14.out.up hy).c 7 _ rfl, (K14.out.up hy).c 8 _ rfl, (hy.cell (p := ⟨R, i * 9, none⟩) hR8).trans e0, (hy.cell (p := ⟨R, i * 9 + 1, none⟩) hR8).trans e1, (hy.cell (p := ⟨R, i * 9 + 2, none⟩) hR8).trans e2, (hy.cell (p := ⟨R, i * 9 + 3, none⟩) hR8).trans e3, (hy.cell (p := ⟨R, i * 9 + 4, none⟩) hR8).trans e4, (hy.cell (p := ⟨R, i * 9 + 5, none⟩) hR8).trans e5, (hy.cell (p := ⟨R, i * 9 + 6, none⟩) hR8).trans e6, (hy.cell (p := ⟨R, i * 9 + 7, none⟩) hR8).trans e7, (hy.cell (p := ⟨R, i * 9 + 8, none⟩) hR8).trans e8⟩))
        clear k13 k14 k15 o3 y3 s3 y9 s9 e0 e1 e2 e3 e4 e5 e6 e7 e8 bx c0 c1 c2 c3 c4 c5 c6 c7 c8 c9 kc kl CAi hb
        go_wp2_with fail
        go_region_held3 (fun y => Below w8.heap.size w8 y ∧ y.cell? ⟨b15, 0, none⟩ = some (.int .i64 0) ∧ y.cell? ⟨b14, 0, none⟩ = some (.int .i64 p.c) ∧ y.cell? ⟨b14, 1, none⟩ = some (.slice da p.d.length dc) ∧ y.cell? ⟨b14, 2, none⟩ = some (.slice na p.ns.length nc) ∧ y.cell? ⟨b14, 3, none⟩ = some (.int .i64 p.s.i) ∧ y.cell? ⟨b14, 4, none⟩ = some (.int .i64 p.s.k) ∧ y.cell? ⟨b14, 5, none⟩ = some (.int .i64 p.s.o) ∧ y.cell? ⟨b14, 6, none⟩ = some (.int .i64 p.s.z) ∧ y.cell? ⟨b14, 7, none⟩ = some (.int .i64 p.s.l) ∧ y.cell? ⟨b14, 8, none⟩ = some (.int .i64 p.s.v) ∧ y.cell? ⟨R, i * 9, none⟩ = some (.int .i64 p.c) ∧ y.cell? ⟨R, i * 9 + 1, none⟩ = some (.slice ud p.d.length uc9) ∧ y.cell? ⟨R, i * 9 + 2, none⟩ = some (.slice un p.ns.length uc8) ∧ y.cell? ⟨R, i * 9 + 3, none⟩ = some (.int .i64 p.s.i) ∧ y.cell? ⟨R, i * 9 + 4, none⟩ = some (.int .i64 p.s.k) ∧ y.cell? ⟨R, i * 9 + 5, none⟩ = some (.int .i64 p.s.o) ∧ y.cell? ⟨R, i * 9 + 6, none⟩ = some (.int .i64 p.s.z) ∧ y.cell? ⟨R, i * 9 + 7, none⟩ = some (.int .i64 p.s.l) ∧ y.cell? ⟨R, i * 9 + 8, none⟩ = some (.int .i64 p.s.v))
          (first | exact K.out _ hR | exact K.out _ (Below.refl _ _).drew | fail)
          ((go_at_call 18; have hs0 := And.left ‹Below w8.heap.size w8 _ ∧ _›; refine (CR.out _ hs0).mono ?_; rintro e y ⟨rfl, hb9⟩; have hR := hs0.trans (hb9.mono hs0.size)))
        all_goals
          have hz := And.left ‹Below w8.heap.size w8 _ ∧ _›
          have J := Lib.hid (I8.out.step hB8 hz)
          have c13 := (K13.out.up hz).c 0 _ rfl
          have q13 := (K13.out.up hz).lt
          have cM := J.out.kn.c 0 _ rfl
          have qM := J.out.kn.lt
          have zM := J.out.kn.f 0 (by simp)
          have hBz : B6 ≤ _ := Nat.le_trans hB8 hz.size
          have O9 := Lib.hid (HO.out.up hz)
          have J2 := Lib.hid (J.out.next hBM hn1B hwB g3 cap3 tn (O9.out.low (p := ⟨M1, 0, none⟩) hMl _).fnods)
          go_wp2_with fail
          go_roundg (l.length - (i + 1))
          case measure => exact Nat.lt_of_lt_of_le hm9 hg
          case rel => exact ⟨i + 1, g3, cap3, by omega, by omega, by omega, by go_num, by simpa using hBz, by rw [HTK.out]; exact J2.out⟩
    · obtain rfl : i = l.length := by omega
      have I2 := I.out
      rw [run_take_all] at I2
      have kt := I2.kt.c 0 _ rfl
      have ktl := I2.kt.lt
      have CT := Lib.hid (treesSame_any (some ⟨g2, 0, none⟩) (some ⟨g, 0, none⟩) cap2 cap (runF T0 l).1 wr I2.on (I2.ot.more hBr))
      rw [run_take_all] at kc
      generalize (runF T0 l).1 = tf at *
      clear I2 HCF CA HR QA
      go_wp2_with fail
      refine CT.out.mono ?_
      rintro e wt ⟨rfl, bt⟩
      go_wp2
      go_ret
      exact ⟨rfl, I.out.b.trans (bt.mono I.out.b.size)⟩

end Go.Proofs.YtmbbmmnpkdfecaaGreatDoor
