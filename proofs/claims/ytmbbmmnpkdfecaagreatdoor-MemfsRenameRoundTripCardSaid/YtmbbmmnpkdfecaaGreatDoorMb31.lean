/- Package memfs and what it calls, at this seat's translation.
   Condition: as each theorem states; this text: MfApply. -/
import Derived.Test.YtmbbmmnpkdfecaaGreatDoorMb25
import Derived.Test.YtmbbmmnpkdfecaaGreatDoorMb30

set_option linter.all false

/- Apply: a request that is refused, and one that is carried out; all of it. Conditions: the tree and the request lie in memory as they read. -/

set_option linter.all false
namespace Go.Proofs.YtmbbmmnpkdfecaaGreatDoor
open Go.RowKit

theorem RpS.more {w : World} {lo B B' : Nat} {vd vn : Value} {p : Rp} (h : RpS w lo B vd vn p) (hB : B ≤ B') : RpS w lo B' vd vn p := ⟨h.d.more hB, h.ns.more hB, h.ld, h.ln⟩
theorem size12 (w : World) (n2 n3 n4 : Nat) (T b0 b1 b2 b3 b4 b5 b6 b7 b8 f0 f1 : Value) :
    ((((((((((((w.setCell ⟨n2, 0, none⟩ T).setCell ⟨n3, 0, none⟩ b0).setCell ⟨n3, 1, none⟩ b1).setCell ⟨n3, 2, none⟩ b2).setCell ⟨n3, 3, none⟩ b3).setCell ⟨n3, 4, none⟩ b4).setCell ⟨n3, 5, none⟩ b5).setCell ⟨n3, 6, none⟩ b6).setCell ⟨n3, 7, none⟩ b7).setCell ⟨n3, 8, none⟩ b8).setCell ⟨n4, 0, none⟩ f0).setCell ⟨n4, 1, none⟩ f1).heap.size = w.heap.size := by simp
theorem OT.store12 {w : World} {B g cap n2 n3 n4 : Nat} {sl : Nat → Sl} {t : FT} (h : OT w B g cap sl t) (h2 : n2 < B) (h3 : n3 < B) (h4 : n4 < B) (T b0 b1 b2 b3 b4 b5 b6 b7 b8 f0 f1 : Value) :
    OT ((((((((((((w.setCell ⟨n2, 0, none⟩ T).setCell ⟨n3, 0, none⟩ b0).setCell ⟨n3, 1, none⟩ b1).setCell ⟨n3, 2, none⟩ b2).setCell ⟨n3, 3, none⟩ b3).setCell ⟨n3, 4, none⟩ b4).setCell ⟨n3, 5, none⟩ b5).setCell ⟨n3, 6, none⟩ b6).setCell ⟨n3, 7, none⟩ b7).setCell ⟨n3, 8, none⟩ b8).setCell ⟨n4, 0, none⟩ f0).setCell ⟨n4, 1, none⟩ f1) B g cap sl t :=
  (((((((((((h.low (p := ⟨n2, 0, none⟩) h2 T).low (p := ⟨n3, 0, none⟩) h3 b0).low (p := ⟨n3, 1, none⟩) h3 b1).low (p := ⟨n3, 2, none⟩) h3 b2).low (p := ⟨n3, 3, none⟩) h3 b3).low (p := ⟨n3, 4, none⟩) h3 b4).low (p := ⟨n3, 5, none⟩) h3 b5).low (p := ⟨n3, 6, none⟩) h3 b6).low (p := ⟨n3, 7, none⟩) h3 b7).low (p := ⟨n3, 8, none⟩) h3 b8).low (p := ⟨n4, 0, none⟩) h4 f0).low (p := ⟨n4, 1, none⟩) h4 f1
theorem RpS.store12 {w : World} {lo B n2 n3 n4 : Nat} {vd vn : Value} {p : Rp} (h : RpS w lo B vd vn p) (h2 : n2 < lo) (h3 : n3 < lo) (h4 : n4 < lo) (T b0 b1 b2 b3 b4 b5 b6 b7 b8 f0 f1 : Value) :
    RpS ((((((((((((w.setCell ⟨n2, 0, none⟩ T).setCell ⟨n3, 0, none⟩ b0).setCell ⟨n3, 1, none⟩ b1).setCell ⟨n3, 2, none⟩ b2).setCell ⟨n3, 3, none⟩ b3).setCell ⟨n3, 4, none⟩ b4).setCell ⟨n3, 5, none⟩ b5).setCell ⟨n3, 6, none⟩ b6).setCell ⟨n3, 7, none⟩ b7).setCell ⟨n3, 8, none⟩ b8).setCell ⟨n4, 0, none⟩ f0).setCell ⟨n4, 1, none⟩ f1) lo B vd vn p :=
  (((((((((((h.low (a := ⟨n2, 0, none⟩) h2 T).low (a := ⟨n3, 0, none⟩) h3 b0).low (a := ⟨n3, 1, none⟩) h3 b1).low (a := ⟨n3, 2, none⟩) h3 b2).low (a := ⟨n3, 3, none⟩) h3 b3).low (a := ⟨n3, 4, none⟩) h3 b4).low (a := ⟨n3, 5, none⟩) h3 b5).low (a := ⟨n3, 6, none⟩) h3 b6).low (a := ⟨n3, 7, none⟩) h3 b7).low (a := ⟨n3, 8, none⟩) h3 b8).low (a := ⟨n4, 0, none⟩) h4 f0).low (a := ⟨n4, 1, none⟩) h4 f1

set_option maxRecDepth 100000 in
set_option maxHeartbeats 16000000 in
theorem applyGood_any (a : Option Addr) (c : Nat) (t : FT) (r : Rq) (vd va : Value) (w : World) (gm : GM w) (h : FNods w w.heap.size a c t) (hr : RqS w w.heap.size vd va r) (hv : (valT (tr t)).1 = 0) (hq : rqC r = 0)  :
    Calls Tryz.prog 12 #[.agg #[.slice a t.length c], rqV r vd va] w (ApplyPost t r w) := by
  have CV := Lib.hid (fun W (hb : Below w.heap.size w W) => validT_any a c (tr t) W (h.nods.up hb))
  have CQ := Lib.hid (fun W (hb : Below w.heap.size w W) => validateRequest_any r vd va W (gm.below hb) (hr.up hb))
  obtain ⟨qa, qc, rfl, _⟩ := id hr.d
  obtain ⟨pa, pc, rfl, _⟩ := id hr.ac
  have HP := Lib.hid (show ∀ e w', Below w.heap.size w w' → (∃ g cap sl vd vn, e = .returned (.tuple #[.agg #[.slice (some ⟨g, 0, none⟩) (applyF t r).1.length cap], rpV (applyF t r).2 vd vn, .agg #[.int .i64 0, .int .i64 0]]) ∧ OT w' w.heap.size g cap sl (applyF t r).1 ∧ RpS w' w.heap.size w'.heap.size vd vn (applyF t r).2) → ApplyPost t r w e w' from fun e w' h1 h2 => ⟨h1, by rw [if_neg (by simpa using hv), if_neg (by simpa using hq)]; exact h2⟩)
  have G := rqG_of hq
  have hfit := fits_of h hv
  have hlen := len_of hv
  have hver := verOk_of hv
  have hok := ok1_of hv
  have CC := Lib.hid (fun W (hb : Below w.heap.size w W) => cloneTree_any a c t W (h.up hb) hfit hlen.1 (by omega))
  unfold ClonePost at CC
  have CP := Lib.hid (fun (Z : World) base X g cap sl (hZ : XO Z base X g cap sl t r (.slice qa r.d.length qc) (.slice pa r.ac.length pc)) (hb : Below w.heap.size w Z) => perform_any base X g cap sl t r _ _ Z hZ (gm.below hb) hok hver G.ok G.k)
  have CL := Lib.hid (fun (Z : World) X g cap (t' : FT) (hZ : XR Z X g cap t' r (.slice qa r.d.length qc) (.slice pa r.ac.length pc)) => checkLimits_any X g cap t' r _ _ Z hZ)
  have HR := Lib.hid hr
  have HA1 := Lib.hid (show (perfF t r).1.2 ≠ 0 → applyF t r = (t, RpC (perfF t r).1.2) from fun h9 => by unfold applyF; rw [if_pos h9])
  have HA2 := Lib.hid (show (perfF t r).1.2 = 0 → (valT (tr (perfF t r).2)).1 ≠ 0 → applyF t r = (t, RpC (valT (tr (perfF t r).2)).1) from fun h9 h8 => by unfold applyF; rw [if_neg (by simpa using h9), if_pos h8])
  have HA3 := Lib.hid (show (perfF t r).1.2 = 0 → (valT (tr (perfF t r).2)).1 = 0 → applyF t r = ((perfF t r).2, replyF (perfF t r).2 r (perfF t r).1.1.toNat) from fun h9 h8 => by unfold applyF; rw [if_neg (by simpa using h9), if_neg (by simpa using h8)])
  have HIN := Lib.hid (perf_in hok r)
  unfold InT at HIN
  have CY := Lib.hid (fun (Z : World) X g cap (t' : FT) (n : Nat) (hZ : XR Z X g cap t' r (.slice qa r.d.length qc) (.slice pa r.ac.length pc)) (hn : n < t'.length) => reply_any X g cap t' r _ _ n Z hZ hn G)
  unfold faultV at CV CQ
  simp only [tr_len] at CV
  rw [valT_zero hv] at CV
  have A0 := Lib.hid (A5.new w a t.length c r (.slice qa r.d.length qc) (.slice pa r.ac.length pc))
  rw [hq] at CQ
  have h40 := hlen.2
  have h1 := hlen.1
  clear h hr gm hv hfit hver hok G hlen hq
  unfold rqV at *
  go_enter Tryz.func12, Tryz.ntmps12
  go_upto_region 1 with fail
  generalize (((((w.alloc (.cells #[.slice a t.length c] 24)).alloc (.cells #[.int .i64 r.k, .int .i64 r.u, .string r.p, .string r.t, .int .i64 r.off, .int .i64 r.sz, .slice qa r.d.length qc, .slice pa r.ac.length pc, .string r.a.n, .string r.a.v] 30)).alloc (.cells #[.slice none 0 0] 24)).alloc (.cells #[.int .i64 0, .slice none 0 0, .slice none 0 0, .int .i64 0, .int .i64 0, .int .i64 0, .int .i64 0, .int .i64 0, .int .i64 0] 35)).alloc (.cells #[.int .i64 0, .int .i64 0] 37)) = w5 at *
  generalize w.heap.size + 1 + 1 + 1 + 1 = n4 at *
  generalize w.heap.size + 1 + 1 + 1 = n3 at *
  generalize w.heap.size + 1 + 1 = n2 at *
  generalize w.heap.size + 1 = n1 at *
  have t0 := A0.out.t.c 0 _ rfl
  go_wp2_with fail
  refine (CV.out _ A0.out.b).mono ?_
  rintro e w6 ⟨rfl, b6⟩
  have A7 := Lib.hid ((A0.out.up b6).up ((Below.refl w6.heap.size w6).alloc (Nat.le_refl _) (.cells #[.int .i64 0, .int .i64 0] 37)))
  clear b6 t0
  have u0 := A7.out.r.c 0 _ rfl
  have u1 := A7.out.r.c 1 _ rfl
  have u2 := A7.out.r.c 2 _ rfl
  have u3 := A7.out.r.c 3 _ rfl
  have u4 := A7.out.r.c 4 _ rfl
  have u5 := A7.out.r.c 5 _ rfl
  have u6 := A7.out.r.c 6 _ rfl
  have u7 := A7.out.r.c 7 _ rfl
  have u8 := A7.out.r.c 8 _ rfl
  have u9 := A7.out.r.c 9 _ rfl
  go_upto_region 4 with fail
  generalize w6.alloc (.cells #[.int .i64 0, .int .i64 0] 37) = w7 at *
  go_wp2_with fail
  refine (CQ.out _ A7.out.b).mono ?_
  rintro e w8 ⟨rfl, b8⟩
  have A8 := Lib.hid (A7.out.up b8)
  clear b8 u0 u1 u2 u3 u4 u5 u6 u7 u8 u9
  have A9 := Lib.hid (A8.out.up ((Below.refl w8.heap.size w8).alloc (Nat.le_refl _) (.cells #[.int .i64 0, .int .i64 0] 37)))
  go_upto_region 7 with fail
  generalize w8.alloc (.cells #[.int .i64 0, .int .i64 0] 37) = w9 at *
  have v0 := A9.out.t.c 0 _ rfl
  have u0 := A9.out.r.c 0 _ rfl
  have u1 := A9.out.r.c 1 _ rfl
  have u2 := A9.out.r.c 2 _ rfl
  have u3 := A9.out.r.c 3 _ rfl
  have u4 := A9.out.r.c 4 _ rfl
  have u5 := A9.out.r.c 5 _ rfl
  have u6 := A9.out.r.c 6 _ rfl
  have u7 := A9.out.r.c 7 _ rfl
  have u8 := A9.out.r.c 8 _ rfl
  have u9 := A9.out.r.c 9 _ rfl
  have vl := A9.out.t.lt
  have ul := A9.out.r.lt
  go_cut [9] from 30 to 33 (fun s9 wx => ∃ X g cap sl, s9 = .pointer (some ⟨X, 0, none⟩) ∧ XO wx w9.heap.size X g cap sl t r (.slice qa r.d.length qc) (.slice pa r.ac.length pc) ∧ Below w9.heap.size w9 wx)
  case first =>
    go_region_with (go_at_call 32; first
      | (refine (CC.out _ (below_drewN A9.out.b _)).mono ?_; rintro e z ⟨g, cap, sl, rfl, ho, hb⟩; have hbz : Below w9.heap.size w9 z := (below_drewN (Below.refl w9.heap.size w9) _).trans (hb.mono (Nat.le_refl _)); have k0 := (hbz.cell (p := ⟨n1, 0, none⟩) ul).trans u0; have k1 := (hbz.cell (p := ⟨n1, 1, none⟩) ul).trans u1; have k2 := (hbz.cell (p := ⟨n1, 2, none⟩) ul).trans u2; have k3 := (hbz.cell (p := ⟨n1, 3, none⟩) ul).trans u3; have k4 := (hbz.cell (p := ⟨n1, 4, none⟩) ul).trans u4; have k5 := (hbz.cell (p := ⟨n1, 5, none⟩) ul).trans u5; have k6 := (hbz.cell (p := ⟨n1, 6, none⟩) ul).trans u6; have k7 := (hbz.cell (p := ⟨n1, 7, none⟩) ul).trans u7; have k8 := (hbz.cell (p := ⟨n1, 8, none⟩) ul).trans u8; have k9 := (hbz.cell (p := ⟨n1, 9, none⟩) ul).trans u9; have kl := Nat.lt_of_lt_of_le ul hbz.size; have HRZ := Lib.hid ((HR.out.keep (fun b o hB => (A9.out.b.trans (hbz.mono A9.out.b.size)).cell (p := ⟨b, o, none⟩) hB)).more A9.out.b.size); have HXO := Lib.hid (XO.fresh (ho.lower (base' := w9.heap.size) (Nat.le_refl _)) HRZ.out h40 hbz); clear ho hb hbz HRZ)
      | (refine (CC.out _ ((A9.out.b.alloc (Nat.le_of_lt vl) _).drew)).mono ?_; rintro e z ⟨g, cap, sl, rfl, ho, hb⟩; have hbz : Below w9.heap.size w9 z := (((Below.refl w9.heap.size w9).alloc (Nat.le_refl _) _).drew).trans (hb.mono (by simp [World.drew])); have k0 := (hbz.cell (p := ⟨n1, 0, none⟩) ul).trans u0; have k1 := (hbz.cell (p := ⟨n1, 1, none⟩) ul).trans u1; have k2 := (hbz.cell (p := ⟨n1, 2, none⟩) ul).trans u2; have k3 := (hbz.cell (p := ⟨n1, 3, none⟩) ul).trans u3; have k4 := (hbz.cell (p := ⟨n1, 4, none⟩) ul).trans u4; have k5 := (hbz.cell (p := ⟨n1, 5, none⟩) ul).trans u5; have k6 := (hbz.cell (p := ⟨n1, 6, none⟩) ul).trans u6; have k7 := (hbz.cell (p := ⟨n1, 7, none⟩) ul).trans u7; have k8 := (hbz.cell (p := ⟨n1, 8, none⟩) ul).trans u8; have k9 := (hbz.cell (p := ⟨n1, 9, none⟩) ul).trans u9; have kl := Nat.lt_of_lt_of_le ul hbz.size; have HXB := Lib.hid (((Blk.new w9 zeroX 78).up (Below.refl _ _).drew).up hb); have hh := Lib.hid ((hb.block w9.heap.size (by simp [World.drew])).trans (heap_alloc_new w9 _)); have e0 := HXB.out.c 0 _ rfl; have ef0 := HXB.out.f 0 (by decide); have e1 := HXB.out.c 1 _ rfl; have ef1 := HXB.out.f 1 (by decide); have e2 := HXB.out.c 2 _ rfl; have ef2 := HXB.out.f 2 (by decide); have e3 := HXB.out.c 3 _ rfl; have ef3 := HXB.out.f 3 (by decide); have e4 := HXB.out.c 4 _ rfl; have ef4 := HXB.out.f 4 (by decide); have e5 := HXB.out.c 5 _ rfl; have ef5 := HXB.out.f 5 (by decide); have e6 := HXB.out.c 6 _ rfl; have ef6 := HXB.out.f 6 (by decide); have e7 := HXB.out.c 7 _ rfl; have ef7 := HXB.out.f 7 (by decide); have e8 := HXB.out.c 8 _ rfl; have ef8 := HXB.out.f 8 (by decide); have e9 := HXB.out.c 9 _ rfl; have ef9 := HXB.out.f 9 (by decide); have e10 := HXB.out.c 10 _ rfl; have ef10 := HXB.out.f 10 (by decide); have hx9 := HXB.out.lt; have HRZ := Lib.hid ((HR.out.keep (fun b o hB => (A9.out.b.trans (hbz.mono A9.out.b.size)).cell (p := ⟨b, o, none⟩) hB)).more A9.out.b.size); have hXl : w9.heap.size < ((w9.alloc (.cells zeroX.toArray 78)).drew).heap.size := lt_alloc_drew _ _; have HXO := Lib.hid (And.intro (XO.late ho hXl (Nat.le_refl _) hh.out HRZ.out h40) (below11 (X := w9.heap.size) hbz (Nat.le_refl _) (.slice (some ⟨g, 0, none⟩) t.length cap) (.int .i64 r.k) (.int .i64 r.u) (.string r.p) (.string r.t) (.int .i64 r.off) (.int .i64 r.sz) (.slice qa r.d.length qc) (.slice pa r.ac.length pc) (.string r.a.n) (.string r.a.v))); clear ho hb hbz HRZ HXB hh))
    all_goals
      go_wp2_with fail
      go_meet
      first
        | with_reducible exact ⟨_, _, _, _, rfl, HXO.out.1, HXO.out.2⟩
        | exact ⟨_, _, _, _, rfl, HXO.out.1.up (Below.refl _ _).drew, HXO.out.2.drew⟩
  case rest =>
    obtain ⟨X, g, cap, sl, rfl, hx, hb⟩ := hcut
    have HX := Lib.hid hx
    have HBW := Lib.hid (show Below w.heap.size w wc from A9.out.b.trans (hb.mono A9.out.b.size))
    have A10 := Lib.hid (A9.out.up hb)
    have hl4 := A9.out.f.lt
    clear hx hb v0 u0 u1 u2 u3 u4 u5 u6 u7 u8 u9 vl ul
    go_wp2_with fail
    refine (CP.out wc _ X g cap sl HX.out HBW.out).mono ?_
    rintro e w11 ⟨rfl, g1, cap1, sl1, hx1, hb1, _⟩
    have HX1 := Lib.hid hx1
    have A11 := Lib.hid (A10.out.below hb1 hl4)
    clear hx1 hb1
    generalize perfF t r = Q at *
    obtain ⟨⟨pn, pc⟩, t'⟩ := Q
    simp only at HA1 HA2 HA3 HIN HX1
    by_cases hpc : pc = 0
    · subst hpc
      obtain ⟨n, hn, hnl⟩ := HIN.out rfl
      subst hn
      clear HIN HA1
      go_wp2_with fail
      refine (CL.out w11 X g1 cap1 t' HX1.out.xr).mono ?_
      rintro e w12 ⟨rfl, hb2⟩
      have A12 := Lib.hid (A11.out.up hb2)
      have HX2 := Lib.hid (HX1.out.up hb2)
      clear hb2
      by_cases hcv : (valT (tr t')).1 = 0
      · have hA := HA3.out (by simp) hcv
        rw [hcv]
        simp only [Int.toNat_natCast] at hA
        clear HA2 HA3
        have CY2 := Lib.hid (fun (Z : World) (hZ : Below w12.heap.size w12 Z) => CY.out Z X g1 cap1 t' n (HX2.out.xr.up hZ) hnl)
        unfold ReplyPost rpV at CY2
        clear CY
        generalize replyF t' r n = rp at *
        have x0 := HX2.out.xr.b.c 0 _ rfl
        have xl := HX2.out.xr.b.lt
        go_upto_region 13 with fail
        go_region_with (go_at_call 35; refine (CY2.out _ (below_drewN (Below.refl _ _) _)).mono ?_; rintro e z ⟨vd, vn, rfl, hs, hb⟩; obtain ⟨da, dc, rfl, _⟩ := id hs.d; obtain ⟨na, nc, rfl, _⟩ := id hs.ns; have hbz : Below w12.heap.size w12 z := (below_drewN (Below.refl w12.heap.size w12) _).trans (hb.mono (Nat.le_refl _)); have AZ := Lib.hid (A12.out.up hbz); have HBZ := Lib.hid hbz; have HS := Lib.hid hs; have x0z := (hbz.cell (p := ⟨X, 0, none⟩) xl).trans x0; have xlz := Nat.lt_of_lt_of_le xl hbz.size; clear hs hb hbz; have q2 := AZ.out.o.c 0 _ rfl; have qf2 := AZ.out.o.f 0 (by decide); have l2 := AZ.out.o.lt; have p0 := AZ.out.p.c 0 _ rfl; have pf0 := AZ.out.p.f 0 (by decide); have p1 := AZ.out.p.c 1 _ rfl; have pf1 := AZ.out.p.f 1 (by decide); have p2 := AZ.out.p.c 2 _ rfl; have pf2 := AZ.out.p.f 2 (by decide); have p3 := AZ.out.p.c 3 _ rfl; have pf3 := AZ.out.p.f 3 (by decide); have p4 := AZ.out.p.c 4 _ rfl; have pf4 := AZ.out.p.f 4 (by decide); have p5 := AZ.out.p.c 5 _ rfl; have pf5 := AZ.out.p.f 5 (by decide); have p6 := AZ.out.p.c 6 _ rfl; have pf6 := AZ.out.p.f 6 (by decide); have p7 := AZ.out.p.c 7 _ rfl; have pf7 := AZ.out.p.f 7 (by decide); have p8 := AZ.out.p.c 8 _ rfl; have pf8 := AZ.out.p.f 8 (by decide); have l3 := AZ.out.p.lt; have s0 := AZ.out.f.c 0 _ rfl; have sf0 := AZ.out.f.f 0 (by decide); have s1 := AZ.out.f.c 1 _ rfl; have sf1 := AZ.out.f.f 1 (by decide); have l4 := AZ.out.f.lt; have k1 := AZ.out.l1; have k2 := AZ.out.l2; have k3 := AZ.out.l3; have k4 := AZ.out.l4; have d23 : n2 ≠ n3 := Nat.ne_of_lt k3; have d24 : n2 ≠ n4 := Nat.ne_of_lt (Nat.lt_trans k3 k4); have d34 : n3 ≠ n4 := Nat.ne_of_lt k4)
        all_goals
          have S := Lib.hid (AZ.out.store (.slice (some ⟨g1, 0, none⟩) t'.length cap1) (.int .i64 rp.c) (.slice da rp.d.length dc) (.slice na rp.ns.length nc) (.int .i64 rp.s.i) (.int .i64 rp.s.k) (.int .i64 rp.s.o) (.int .i64 rp.s.z) (.int .i64 rp.s.l) (.int .i64 rp.s.v) (.int .i64 0) (.int .i64 0))
          have hl12 := A12.out.f.lt
          have hw9 := A9.out.b.size
          have OZ := Lib.hid (OT.store12 (HX2.out.ot.up HBZ.out) (show n2 < w9.heap.size by omega) (show n3 < w9.heap.size by omega) (show n4 < w9.heap.size by omega) (.slice (some ⟨g1, 0, none⟩) t'.length cap1) (.int .i64 rp.c) (.slice da rp.d.length dc) (.slice na rp.ns.length nc) (.int .i64 rp.s.i) (.int .i64 rp.s.k) (.int .i64 rp.s.o) (.int .i64 rp.s.z) (.int .i64 rp.s.l) (.int .i64 rp.s.v) (.int .i64 0) (.int .i64 0))
          have RZ := Lib.hid (RpS.store12 (n2 := n2) (n3 := n3) (n4 := n4) (HS.out.lower (show w12.heap.size ≤ _ from Nat.le_refl _)) (by omega) (by omega) (by omega) (.slice (some ⟨g1, 0, none⟩) t'.length cap1) (.int .i64 rp.c) (.slice da rp.d.length dc) (.slice na rp.ns.length nc) (.int .i64 rp.s.i) (.int .i64 rp.s.k) (.int .i64 rp.s.o) (.int .i64 rp.s.z) (.int .i64 rp.s.l) (.int .i64 rp.s.v) (.int .i64 0) (.int .i64 0))
          have ZZ := Lib.hid (size12 z n2 n3 n4 (.slice (some ⟨g1, 0, none⟩) t'.length cap1) (.int .i64 rp.c) (.slice da rp.d.length dc) (.slice na rp.ns.length nc) (.int .i64 rp.s.i) (.int .i64 rp.s.k) (.int .i64 rp.s.o) (.int .i64 rp.s.z) (.int .i64 rp.s.l) (.int .i64 rp.s.v) (.int .i64 0) (.int .i64 0))
          go_wp2
          generalize hw : World.setCell _ ⟨n4, 1, none⟩ _ = wz at *
          obtain ⟨SB, SO, SP, SF⟩ := S.out
          have y2 := SO.c 0 _ rfl
          have x0 := SP.c 0 _ rfl
          have x1 := SP.c 1 _ rfl
          have x2 := SP.c 2 _ rfl
          have x3 := SP.c 3 _ rfl
          have x4 := SP.c 4 _ rfl
          have x5 := SP.c 5 _ rfl
          have x6 := SP.c 6 _ rfl
          have x7 := SP.c 7 _ rfl
          have x8 := SP.c 8 _ rfl
          have z0 := SF.c 0 _ rfl
          have z1 := SF.c 1 _ rfl
          have hw12 := A12.out.b.size
          exact bodyPost_ret (v := .tuple #[.agg #[.slice (some ⟨g1, 0, none⟩) t'.length cap1], rpV rp (.slice da rp.d.length dc) (.slice na rp.ns.length nc), .agg #[.int .i64 0, .int .i64 0]]) (by simp [results, Tryz.results12, rpV, go_sem, y2, x0, x1, x2, x3, x4, x5, x6, x7, x8, z0, z1]) rfl (HP.out _ _ SB ⟨g1, cap1, sl1, _, _, by rw [hA], by rw [hA]; exact OZ.out.lower hw9, by rw [hA]; exact (RZ.out.lower hw12).more (Nat.le_of_eq ZZ.out.symm)⟩)
      · have hA := HA2.out (by simp) hcv
        generalize (valT (tr t')).1 = cv at *
        have hcc : (cv != 0) = true := by simpa using hcv
        clear HA2 HA3 hcv
        have v0 := A12.out.t.c 0 _ rfl
        have CC2 := Lib.hid (CC.out _ A12.out.b)
        go_upto_region 12 with fail
        go_wp2_with fail
        refine CC2.out.mono ?_
        rintro e wz ⟨gz, capz, slz, rfl, hoz, hbz⟩
        have HOZ := Lib.hid hoz
        have HBZ := Lib.hid hbz
        have AZ := Lib.hid (A12.out.up hbz)
        have S := Lib.hid (AZ.out.store (.slice (some ⟨gz, 0, none⟩) t.length capz) (.int .i64 cv) (.slice none 0 0) (.slice none 0 0) (.int .i64 0) (.int .i64 0) (.int .i64 0) (.int .i64 0) (.int .i64 0) (.int .i64 0) (.int .i64 0) (.int .i64 0))
        have hn4 := A12.out.f.lt
        clear hoz hbz v0
        have q2 := AZ.out.o.c 0 _ rfl
        have qf2 := AZ.out.o.f 0 (by decide)
        have l2 := AZ.out.o.lt
        have p0 := AZ.out.p.c 0 _ rfl
        have pf0 := AZ.out.p.f 0 (by decide)
        have p1 := AZ.out.p.c 1 _ rfl
        have pf1 := AZ.out.p.f 1 (by decide)
        have p2 := AZ.out.p.c 2 _ rfl
        have pf2 := AZ.out.p.f 2 (by decide)
        have p3 := AZ.out.p.c 3 _ rfl
        have pf3 := AZ.out.p.f 3 (by decide)
        have p4 := AZ.out.p.c 4 _ rfl
        have pf4 := AZ.out.p.f 4 (by decide)
        have p5 := AZ.out.p.c 5 _ rfl
        have pf5 := AZ.out.p.f 5 (by decide)
        have p6 := AZ.out.p.c 6 _ rfl
        have pf6 := AZ.out.p.f 6 (by decide)
        have p7 := AZ.out.p.c 7 _ rfl
        have pf7 := AZ.out.p.f 7 (by decide)
        have p8 := AZ.out.p.c 8 _ rfl
        have pf8 := AZ.out.p.f 8 (by decide)
        have l3 := AZ.out.p.lt
        have s0 := AZ.out.f.c 0 _ rfl
        have sf0 := AZ.out.f.f 0 (by decide)
        have s1 := AZ.out.f.c 1 _ rfl
        have sf1 := AZ.out.f.f 1 (by decide)
        have l4 := AZ.out.f.lt
        have k1 := AZ.out.l1
        have k2 := AZ.out.l2
        have k3 := AZ.out.l3
        have k4 := AZ.out.l4
        have d23 : n2 ≠ n3 := Nat.ne_of_lt k3
        have d24 : n2 ≠ n4 := Nat.ne_of_lt (Nat.lt_trans k3 k4)
        have d34 : n3 ≠ n4 := Nat.ne_of_lt k4
        have OZ := Lib.hid (OT.store12 HOZ.out (show n2 < w12.heap.size by omega) (show n3 < w12.heap.size by omega) (show n4 < w12.heap.size by omega) (.slice (some ⟨gz, 0, none⟩) t.length capz) (.int .i64 cv) (.slice none 0 0) (.slice none 0 0) (.int .i64 0) (.int .i64 0) (.int .i64 0) (.int .i64 0) (.int .i64 0) (.int .i64 0) (.int .i64 0) (.int .i64 0))
        go_wp2
        generalize hw : World.setCell _ ⟨n4, 1, none⟩ _ = wz at *
        obtain ⟨SB, SO, SP, SF⟩ := S.out
        have y2 := SO.c 0 _ rfl
        have x0 := SP.c 0 _ rfl
        have x1 := SP.c 1 _ rfl
        have x2 := SP.c 2 _ rfl
        have x3 := SP.c 3 _ rfl
        have x4 := SP.c 4 _ rfl
        have x5 := SP.c 5 _ rfl
        have x6 := SP.c 6 _ rfl
        have x7 := SP.c 7 _ rfl
        have x8 := SP.c 8 _ rfl
        have z0 := SF.c 0 _ rfl
        have z1 := SF.c 1 _ rfl
        have hw12 := A12.out.b.size
        exact bodyPost_ret (v := .tuple #[.agg #[.slice (some ⟨gz, 0, none⟩) t.length capz], rpV (RpC cv) (.slice none 0 0) (.slice none 0 0), .agg #[.int .i64 0, .int .i64 0]]) (by simp [results, Tryz.results12, rpV, go_sem, y2, x0, x1, x2, x3, x4, x5, x6, x7, x8, z0, z1]) rfl (HP.out _ _ SB ⟨gz, capz, slz, _, _, by rw [hA], by rw [hA]; exact OZ.out.lower hw12, by rw [hA]; exact RpS.none_ _ _ _ _ _⟩)

    · have hA := HA1.out hpc
      have hcc : (pc == 0) = false := by simpa using hpc
      have hcd : (pc != 0) = true := by simpa using hpc
      clear HA1 HA2 HA3 HIN hpc
      have A12 := A11
      obtain ⟨w12, rfl⟩ : ∃ w12 : World, w12 = w11 := ⟨_, rfl⟩
      have v0 := A12.out.t.c 0 _ rfl
      have CC2 := Lib.hid (CC.out _ A12.out.b)
      go_upto_region 12 with fail
      go_wp2_with fail
      refine CC2.out.mono ?_
      rintro e wz ⟨gz, capz, slz, rfl, hoz, hbz⟩
      have HOZ := Lib.hid hoz
      have HBZ := Lib.hid hbz
      have AZ := Lib.hid (A12.out.up hbz)
      have S := Lib.hid (AZ.out.store (.slice (some ⟨gz, 0, none⟩) t.length capz) (.int .i64 pc) (.slice none 0 0) (.slice none 0 0) (.int .i64 0) (.int .i64 0) (.int .i64 0) (.int .i64 0) (.int .i64 0) (.int .i64 0) (.int .i64 0) (.int .i64 0))
      have hn4 := A12.out.f.lt
      clear hoz hbz v0
      have q2 := AZ.out.o.c 0 _ rfl
      have qf2 := AZ.out.o.f 0 (by decide)
      have l2 := AZ.out.o.lt
      have p0 := AZ.out.p.c 0 _ rfl
      have pf0 := AZ.out.p.f 0 (by decide)
      have p1 := AZ.out.p.c 1 _ rfl
      have pf1 := AZ.out.p.f 1 (by decide)
      have p2 := AZ.out.p.c 2 _ rfl
      have pf2 := AZ.out.p.f 2 (by decide)
      have p3 := AZ.out.p.c 3 _ rfl
      have pf3 := AZ.out.p.f 3 (by decide)
      have p4 := AZ.out.p.c 4 _ rfl
      have pf4 := AZ.out.p.f 4 (by decide)
      have p5 := AZ.out.p.c 5 _ rfl
      have pf5 := AZ.out.p.f 5 (by decide)
      have p6 := AZ.out.p.c 6 _ rfl
      have pf6 := AZ.out.p.f 6 (by decide)
      have p7 := AZ.out.p.c 7 _ rfl
      have pf7 := AZ.out.p.f 7 (by decide)
      have p8 := AZ.out.p.c 8 _ rfl
      have pf8 := AZ.out.p.f 8 (by decide)
      have l3 := AZ.out.p.lt
      have s0 := AZ.out.f.c 0 _ rfl
      have sf0 := AZ.out.f.f 0 (by decide)
      have s1 := AZ.out.f.c 1 _ rfl
      have sf1 := AZ.out.f.f 1 (by decide)
      have l4 := AZ.out.f.lt
      have k1 := AZ.out.l1
      have k2 := AZ.out.l2
      have k3 := AZ.out.l3
      have k4 := AZ.out.l4
      have d23 : n2 ≠ n3 := Nat.ne_of_lt k3
      have d24 : n2 ≠ n4 := Nat.ne_of_lt (Nat.lt_trans k3 k4)
      have d34 : n3 ≠ n4 := Nat.ne_of_lt k4
      have OZ := Lib.hid (OT.store12 HOZ.out (show n2 < w12.heap.size by omega) (show n3 < w12.heap.size by omega) (show n4 < w12.heap.size by omega) (.slice (some ⟨gz, 0, none⟩) t.length capz) (.int .i64 pc) (.slice none 0 0) (.slice none 0 0) (.int .i64 0) (.int .i64 0) (.int .i64 0) (.int .i64 0) (.int .i64 0) (.int .i64 0) (.int .i64 0) (.int .i64 0))
      go_wp2
      generalize hw : World.setCell _ ⟨n4, 1, none⟩ _ = wz at *
      obtain ⟨SB, SO, SP, SF⟩ := S.out
      have y2 := SO.c 0 _ rfl
      have x0 := SP.c 0 _ rfl
      have x1 := SP.c 1 _ rfl
      have x2 := SP.c 2 _ rfl
      have x3 := SP.c 3 _ rfl
      have x4 := SP.c 4 _ rfl
      have x5 := SP.c 5 _ rfl
      have x6 := SP.c 6 _ rfl
      have x7 := SP.c 7 _ rfl
      have x8 := SP.c 8 _ rfl
      have z0 := SF.c 0 _ rfl
      have z1 := SF.c 1 _ rfl
      have hw12 := A12.out.b.size
      exact bodyPost_ret (v := .tuple #[.agg #[.slice (some ⟨gz, 0, none⟩) t.length capz], rpV (RpC pc) (.slice none 0 0) (.slice none 0 0), .agg #[.int .i64 0, .int .i64 0]]) (by simp [results, Tryz.results12, rpV, go_sem, y2, x0, x1, x2, x3, x4, x5, x6, x7, x8, z0, z1]) rfl (HP.out _ _ SB ⟨gz, capz, slz, _, _, by rw [hA], by rw [hA]; exact OZ.out.lower hw12, by rw [hA]; exact RpS.none_ _ _ _ _ _⟩)


theorem apply_any (a : Option Addr) (c : Nat) (t : FT) (r : Rq) (vd va : Value) (w : World) (gm : GM w) (h : FNods w w.heap.size a c t) (hr : RqS w w.heap.size vd va r) :
    Calls Tryz.prog 12 #[.agg #[.slice a t.length c], rqV r vd va] w (ApplyPost t r w) := by
  by_cases hv : (valT (tr t)).1 = 0
  · by_cases hq : rqC r = 0
    · exact applyGood_any a c t r vd va w gm h hr hv hq
    · exact applyReq_any a c t r vd va w gm h hr hv hq
  · exact applyBad_any a c t r vd va w h hr hv

end Go.Proofs.YtmbbmmnpkdfecaaGreatDoor
