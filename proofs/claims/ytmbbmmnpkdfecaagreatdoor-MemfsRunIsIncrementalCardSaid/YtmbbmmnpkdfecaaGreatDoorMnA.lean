/- What a law of package memfs or of its neighbours needs, at the translation of this seat.
   Condition: as each theorem states; this text: MfLawInc. -/
import Derived.Test.YtmbbmmnpkdfecaaGreatDoorMb34

set_option linter.all false

/- The law MemfsRunIsIncremental returns true at every list of requests and number. Conditions: the requests lie in memory as they read; the door's variable lies in memory. -/

set_option linter.all false
namespace Go.Proofs.YtmbbmmnpkdfecaaGreatDoor
open Go.RowKit

theorem rqsC_all {l : List Rq} (h : (rqsC l).1 = 0) : ∀ j, j < l.length → rqC (l.getD j R0) = 0 := fun j hj => by
  have := firstNZ_zero (fun j => rqC (l.getD j R0)) l.length 0 h j hj
  simpa using this
theorem getD_take {l : List Rq} {n j : Nat} (hj : j < n) : (l.take n).getD j R0 = l.getD j R0 := by
  rw [List.getD_eq_getElem?_getD, List.getD_eq_getElem?_getD, List.getElem?_take_of_lt hj]
theorem rqsC_take {l : List Rq} (h : (rqsC l).1 = 0) (n : Nat) : (rqsC (l.take n)).1 = 0 := by
  rw [rqsC_ok (fun j hj => by
    rw [List.length_take] at hj
    rw [getD_take (by omega)]
    exact rqsC_all h j (by omega))]
theorem Rqs.cut {w : World} {B : Nat} {a : Option Addr} {c : Nat} {l : List Rq} (h : Rqs w B a c l) {n : Nat} (hn : n ≤ l.length) : Rqs w B a c (l.take n) := by
  have hl : (l.take n).length = n := by rw [List.length_take]; omega
  refine ⟨by rw [hl]; exact Nat.le_trans hn h.cap, by rw [hl]; exact Nat.le_trans hn h.len, fun h0 => ?_⟩
  rw [hl] at h0
  obtain ⟨b, o, ha, hB, hj⟩ := h.at_ (by omega)
  refine ⟨b, o, ha, hB, fun j hjl => ?_⟩
  rw [hl] at hjl
  rw [getD_take hjl]
  exact hj j (by omega)
theorem run_take_all (l : List Rq) (t : FT) : runF t (l.take l.length) = runF t l := by rw [List.take_length]
theorem run_reply {l : List Rq} {i : Nat} (hi : i < l.length) (t : FT) : (runF t l).2.getD i Rp0 = (applyF (runF t (l.take i)).1 (l.getD i R0)).2 := by
  have e : l = l.take (i + 1) ++ l.drop (i + 1) := (List.take_append_drop (i + 1) l).symm
  have h1 : (runF t l).2 = (runF t (l.take (i + 1))).2 ++ (runF (runF t (l.take (i + 1))).1 (l.drop (i + 1))).2 := by
    conv => lhs; rw [e]
    rw [run_append]
  rw [h1, take_run hi]
  have hlen : (runF t (l.take i)).2.length = i := by rw [run_len, List.length_take]; omega
  rw [List.getD_eq_getElem?_getD, List.append_assoc, List.getElem?_append_right (by omega), hlen, Nat.sub_self]
  rfl

set_option maxRecDepth 100000 in
set_option maxHeartbeats 6400000 in
theorem lawIncBad_any (a : Option Addr) (c : Nat) (l : List Rq) (k : Int) (w : World) (gm : GM w) (fc fi : Int) (hne : fc ≠ 0)
    (C : Calls Tryz.prog 19 #[.slice a l.length c] w fun e z => Below w.heap.size w z ∧ e = .returned (.tuple #[.agg #[.slice none 0 0], .slice none 0 0, .agg #[.int .i64 fc, .int .i64 fi]])) :
    Calls Tryz.prog 5 #[.slice a l.length c, .int .u8 k] w fun e w' => e = .returned (.bool true) ∧ Below w.heap.size w w' := by
  have CE := Lib.hid (fun W (hb : Below w.heap.size w W) => example_any W (gm.below hb))
  have hcc : (fc != 0) = true := by simpa using hne
  have CR := Lib.hid C
  clear gm hne C
  generalize l.length = n at *
  go_enter Tryz.func5, Tryz.ntmps5
  go_wp2_with fail
  refine CR.out.mono ?_
  rintro e z ⟨hbz, rfl⟩
  have BZ := Lib.hid hbz
  clear hbz
  have TN := Lib.hid (two_new z [.slice none 0 0] [.int .i64 fc, .int .i64 fi] 24 37)
  go_upto_region 2 with fail
  have B5 := Lib.hid (BZ.out.trans (TN.out.1.mono BZ.out.size))
  generalize (z.alloc (.cells #[.slice none 0 0] 24)).alloc (.cells #[.int .i64 fc, .int .i64 fi] 37) = w5 at *
  generalize z.heap.size + 1 = n2 at *
  generalize z.heap.size = n1 at *
  go_wp2_with fail
  refine (CE.out _ B5.out).mono ?_
  rintro e w6 ⟨rfl, b6⟩
  have B6 := Lib.hid (B5.out.trans (b6.mono B5.out.size))
  obtain ⟨_, TU, TF⟩ := TN.out
  have K3 := TF.up b6
  have f0 := K3.c 0 _ rfl
  have fl := K3.lt
  clear b6 TU TF K3 TN
  go_wp2
  all_goals
    go_ret
    exact ⟨rfl, B6.out⟩

/-- What holds while the rest is applied. -/
def RpB (w : World) (B R : Nat) (ps : List Rp) : Prop := R < B ∧
  ∀ j, j < ps.length → ∃ vd vn, (w.cell? ⟨R, j * 9, none⟩ = some (.int .i64 (ps.getD j Rp0).c) ∧ w.cell? ⟨R, j * 9 + 1, none⟩ = some vd ∧ w.cell? ⟨R, j * 9 + 2, none⟩ = some vn ∧ w.cell? ⟨R, j * 9 + 3, none⟩ = some (.int .i64 (ps.getD j Rp0).s.i)
    ∧ w.cell? ⟨R, j * 9 + 4, none⟩ = some (.int .i64 (ps.getD j Rp0).s.k) ∧ w.cell? ⟨R, j * 9 + 5, none⟩ = some (.int .i64 (ps.getD j Rp0).s.o) ∧ w.cell? ⟨R, j * 9 + 6, none⟩ = some (.int .i64 (ps.getD j Rp0).s.z) ∧ w.cell? ⟨R, j * 9 + 7, none⟩ = some (.int .i64 (ps.getD j Rp0).s.l) ∧ w.cell? ⟨R, j * 9 + 8, none⟩ = some (.int .i64 (ps.getD j Rp0).s.v))
      ∧ Byts w B vd (ps.getD j Rp0).d ∧ Strs w B vn (ps.getD j Rp0).ns
theorem Rps.bnd {w : World} {lo R : Nat} {ps : List Rp} (h : Rps w lo R ps) (hR : R < w.heap.size) : RpB w w.heap.size R ps := ⟨hR, fun j hj => by
  obtain ⟨vd, vn, hc, hs⟩ := h j hj
  exact ⟨vd, vn, hc, hs.d, hs.ns⟩⟩
theorem RpB.below {w w' : World} {B R : Nat} {ps : List Rp} (h : RpB w B R ps) (hb : Below B w w') : RpB w' B R ps := ⟨h.1, fun j hj => by
  obtain ⟨vd, vn, ⟨c0, c1, c2, c3, c4, c5, c6, c7, c8⟩, h1, h2⟩ := h.2 j hj
  have k : ∀ o, w'.cell? ⟨R, o, none⟩ = w.cell? ⟨R, o, none⟩ := fun o => hb.cell (p := ⟨R, o, none⟩) h.1
  exact ⟨vd, vn, ⟨(k _).trans c0, (k _).trans c1, (k _).trans c2, (k _).trans c3, (k _).trans c4, (k _).trans c5, (k _).trans c6, (k _).trans c7, (k _).trans c8⟩, h1.keep (fun b o hb2 => hb.cell (p := ⟨b, o, none⟩) hb2), h2.below hb⟩⟩
structure INI (w wr : World) (B6 M1 n1 R g cap g2 cap2 : Nat) (l : List Rq) (t2 : FT) : Prop where
  b : Below w.heap.size w wr
  kn : Blk wr M1 [.slice (some ⟨g2, 0, none⟩) t2.length cap2]
  on : FNods wr wr.heap.size (some ⟨g2, 0, none⟩) cap2 t2
  kt : Blk wr n1 [.slice (some ⟨g, 0, none⟩) (runF T0 l).1.length cap]
  ot : FNods wr B6 (some ⟨g, 0, none⟩) cap (runF T0 l).1
  rp : RpB wr B6 R (runF T0 l).2
theorem INI.step {w wr z : World} {B6 M1 n1 R g cap g2 cap2 : Nat} {l : List Rq} {t2 : FT} (h : INI w wr B6 M1 n1 R g cap g2 cap2 l t2) (hB : B6 ≤ wr.heap.size) (hb : Below wr.heap.size wr z) : INI w z B6 M1 n1 R g cap g2 cap2 l t2 :=
  ⟨h.b.trans (hb.mono h.b.size), h.kn.up hb, h.on.up hb, h.kt.up hb, h.ot.keep fun b o hb2 => (hb.mono hB).cell (p := ⟨b, o, none⟩) hb2, h.rp.below (hb.mono hB)⟩

end Go.Proofs.YtmbbmmnpkdfecaaGreatDoor
