/- Package memfs and what it calls, at this seat's translation.
   Condition: as each theorem states; this text: MfCheck. -/
import Derived.Test.YtmbbmmnpkdfecaaGreatDoorMb12
import Derived.Test.YtmbbmmnpkdfecaaGreatDoorMb6
import Derived.Test.YtmbbmmnpkdfecaaGreatDoorMb5
import Derived.Deep.QuietTactic
import Derived.BigQuiet
import Derived.Deep.CutRange
import Derived.Deep.CutBlock

set_option linter.all false

/- checkRequest and ValidateRequest of package memfs: the code of the first error in the form of a request. Conditions: the request's slices lie in memory as they read. -/

set_option linter.all false
namespace Go.Proofs.YtmbbmmnpkdfecaaGreatDoor
open Go.RowKit

def usrB (u : Int) : Bool := decide (0 ≤ u ∧ u ≤ 7)
def offB (o : Int) : Bool := decide (0 ≤ o ∧ o ≤ 1000000)
def szB (k z : Int) : Bool := decide (0 ≤ z ∧ z ≤ maxSz k)
/-- The code of a request. -/
def rqC (r : Rq) : Int :=
  if knownB r.k = false then 4
  else if usrB r.u = false then 3
  else if blankB (wo r) = false then 5
  else if pathB r.p = false then 12
  else if twoB r.k = true ∧ pathB r.t = false then 12
  else if offB r.off = false then 3
  else if szB r.k r.sz = false then 3
  else if 200 < r.d.length then 2
  else if (valF r.ac).1 ≠ 0 then (valF r.ac).1
  else if r.k = 12 then codeA r.a else 0
/-- The cells of a request. -/
def rqL (r : Rq) (vd va : Value) : List Value := [.int .i64 r.k, .int .i64 r.u, .string r.p, .string r.t, .int .i64 r.off, .int .i64 r.sz, vd, va, .string r.a.n, .string r.a.v]
structure RqC (w : World) (n o : Nat) (r : Rq) (vd va : Value) : Prop where
  c0 : w.cell? ⟨n, o, none⟩ = some (.int .i64 r.k)
  c1 : w.cell? ⟨n, o + 1, none⟩ = some (.int .i64 r.u)
  c2 : w.cell? ⟨n, o + 2, none⟩ = some (.string r.p)
  c3 : w.cell? ⟨n, o + 3, none⟩ = some (.string r.t)
  c4 : w.cell? ⟨n, o + 4, none⟩ = some (.int .i64 r.off)
  c5 : w.cell? ⟨n, o + 5, none⟩ = some (.int .i64 r.sz)
  c6 : w.cell? ⟨n, o + 6, none⟩ = some vd
  c7 : w.cell? ⟨n, o + 7, none⟩ = some va
  c8 : w.cell? ⟨n, o + 8, none⟩ = some (.string r.a.n)
  c9 : w.cell? ⟨n, o + 9, none⟩ = some (.string r.a.v)
structure RqB (w : World) (n : Nat) (k u : Int) (p t : ByteArray) (off sz : Int) (vd va : Value) (an av : ByteArray) : Prop where
  lt : n < w.heap.size
  c0 : w.cell? ⟨n, 0, none⟩ = some (.int .i64 k)
  c1 : w.cell? ⟨n, 1, none⟩ = some (.int .i64 u)
  c2 : w.cell? ⟨n, 2, none⟩ = some (.string p)
  c3 : w.cell? ⟨n, 3, none⟩ = some (.string t)
  c4 : w.cell? ⟨n, 4, none⟩ = some (.int .i64 off)
  c5 : w.cell? ⟨n, 5, none⟩ = some (.int .i64 sz)
  c6 : w.cell? ⟨n, 6, none⟩ = some vd
  c7 : w.cell? ⟨n, 7, none⟩ = some va
  c8 : w.cell? ⟨n, 8, none⟩ = some (.string an)
  c9 : w.cell? ⟨n, 9, none⟩ = some (.string av)
theorem RqB.new (w : World) (k u : Int) (p t : ByteArray) (off sz : Int) (vd va : Value) (an av : ByteArray) (ty : TypeId) : RqB (w.alloc (.cells #[.int .i64 k, .int .i64 u, .string p, .string t, .int .i64 off, .int .i64 sz, vd, va, .string an, .string av] ty)) w.heap.size k u p t off sz vd va an av :=
  ⟨by simp, by simp, by simp, by simp, by simp, by simp, by simp, by simp, by simp, by simp, by simp⟩
theorem RqB.below {w w' : World} {B n : Nat} {k u : Int} {p t : ByteArray} {off sz : Int} {vd va : Value} {an av : ByteArray} (h : RqB w n k u p t off sz vd va an av) (hb : Below B w w') (hn : n < B) : RqB w' n k u p t off sz vd va an av :=
  ⟨Nat.lt_of_lt_of_le h.lt hb.size, (hb.cell (p := ⟨n, 0, none⟩) hn).trans h.c0, (hb.cell (p := ⟨n, 1, none⟩) hn).trans h.c1, (hb.cell (p := ⟨n, 2, none⟩) hn).trans h.c2, (hb.cell (p := ⟨n, 3, none⟩) hn).trans h.c3, (hb.cell (p := ⟨n, 4, none⟩) hn).trans h.c4, (hb.cell (p := ⟨n, 5, none⟩) hn).trans h.c5, (hb.cell (p := ⟨n, 6, none⟩) hn).trans h.c6, (hb.cell (p := ⟨n, 7, none⟩) hn).trans h.c7, (hb.cell (p := ⟨n, 8, none⟩) hn).trans h.c8, (hb.cell (p := ⟨n, 9, none⟩) hn).trans h.c9⟩
theorem RqB.up {w w' : World} {n : Nat} {k u : Int} {p t : ByteArray} {off sz : Int} {vd va : Value} {an av : ByteArray} (h : RqB w n k u p t off sz vd va an av) (hb : Below w.heap.size w w') : RqB w' n k u p t off sz vd va an av := h.below hb h.lt

theorem setF_nil (a : Attr) : (setF [] a).1 = codeA a := by
  unfold setF
  rw [if_pos (show (valA []).1 = 0 from rfl)]
  by_cases h : codeA a = 0
  · rw [if_pos h, if_neg, h]
    have := setL_len [] a
    simp at this; omega
  · rw [if_neg h]
theorem splitF_of {p : ByteArray} : pathB p = true ↔ (splitF p).1 = 0 := by unfold pathB; simp

set_option maxRecDepth 100000 in
set_option maxHeartbeats 8000000 in
theorem checkRequest_any (r : Rq) (vd va : Value) (w : World) (gm : GM w) (h : RqS w w.heap.size vd va r) :
    Calls Tryz.prog 60 #[rqV r vd va] w fun e w' => e = .returned (.int .i64 (rqC r)) ∧ Below w.heap.size w w' := by
  have hsd : ∃ a c, vd = .slice a r.d.length c ∧ r.d.length ≤ c ∧ r.d.length ≤ 140737488355328 := by obtain ⟨a, c, h, h2, h3, _⟩ := h.d; exact ⟨_, _, h, h2, h3⟩
  obtain ⟨da, dc, rfl, hdc, hdl⟩ := hsd
  have hsa : ∃ a n c, va = .slice a n c := by obtain ⟨a, c, h, _⟩ := h.ac; exact ⟨_, _, _, h⟩
  obtain ⟨aa, an', ac', rfl⟩ := hsa
  have CW := Lib.hid (fun W (hb : Below w.heap.size w W) => withoutUsed_any r _ _ W (h.up hb))
  have CB := Lib.hid (fun vd' va' W (s : RqS W W.heap.size vd' va' (wo r)) => isBlank_any (wo r) vd' va' W s)
  have CP := Lib.hid (fun W (hb : Below w.heap.size w W) => isPath_any r.p W (gm.below hb) h.p)
  have CT := Lib.hid (fun W (hb : Below w.heap.size w W) => isPath_any r.t W (gm.below hb) h.t)
  have C2 := Lib.hid (fun W => usesTarget_any r.k W)
  have CU := Lib.hid (fun W => mBetween_any r.u 7 W)
  have CO := Lib.hid (fun W => mBetween_any r.off 1000000 W)
  obtain ⟨mill, hmill⟩ : ∃ m : Int, m = 1000000 := ⟨_, rfl⟩
  rw [← hmill] at CO
  have HM1 := Lib.hid hmill
  clear hmill
  have CM := Lib.hid (fun W => maxSize_any r.k W)
  have CZ := Lib.hid (fun W => mBetween_any r.sz (maxSz r.k) W)
  have CV := Lib.hid (fun W (hb : Below w.heap.size w W) => validate_any _ r.ac W (h.up hb).ac)
  have CS := Lib.hid (fun W => set_any (.slice none 0 0) [] r.a.n r.a.v W (Ats.none_ _ _) h.a)
  unfold WoPost at CW
  unfold valV faultV at CV
  unfold SetFPost faultV at CS
  rw [show (⟨r.a.n, r.a.v⟩ : Attr) = r.a from rfl, setF_nil] at CS
  have HC := Lib.hid (show rqC r = _ from rfl)
  rw [show decide (0 ≤ r.u ∧ r.u ≤ 7) = usrB r.u from rfl] at CU
  rw [show decide (0 ≤ r.off ∧ r.off ≤ mill) = offB r.off by rw [HM1.out]; rfl] at CO
  rw [show decide (0 ≤ r.sz ∧ r.sz ≤ maxSz r.k) = szB r.k r.sz from rfl] at CZ
  unfold rqC at HC
  have HCe : Hid (rqC r = _) := HC
  generalize hR : rqC r = R at *
  clear hR HC
  have B0 := Lib.hid (show Below w.heap.size w (w.alloc (.cells #[.int .i64 r.k, .int .i64 r.u, .string r.p, .string r.t, .int .i64 r.off, .int .i64 r.sz, .slice da r.d.length dc, .slice aa an' ac', .string r.a.n, .string r.a.v] 30)) from (Below.refl _ _).alloc (Nat.le_refl _) _)
  have K0 := Lib.hid (RqB.new w r.k r.u r.p r.t r.off r.sz (.slice da r.d.length dc) (.slice aa an' ac') r.a.n r.a.v 30)
  clear h gm
  unfold rqV
  generalize hw : wo r = W1 at *
  generalize blankB W1 = bB at *
  generalize knownB r.k = kB at *
  generalize usrB r.u = uB at *
  generalize pathB r.p = pB at *
  generalize pathB r.t = tB at *
  generalize twoB r.k = twB at *
  generalize offB r.off = oB at *
  generalize szB r.k r.sz = zB at *
  generalize maxSz r.k = mz at *
  generalize (valF r.ac).1 = vc at *
  generalize (valF r.ac).2 = vi at *
  generalize codeA r.a = ca at *
  generalize (setF [] r.a).2 = si at *
  generalize setO [] r.a = so at *
  generalize r.d.length = dl at *
  clear hw
  obtain ⟨k, u, p, t, off, sz, d, ac, an, av⟩ := r
  simp only at *
  go_enter Tryz.func60, Tryz.ntmps60
  go_wp2_with fail
  refine (CW.out _ B0.out).mono ?_
  rintro e w1 ⟨vd1, va1, rfl, s1, b1⟩
  obtain ⟨xa1, xc1, rfl⟩ : ∃ a c, vd1 = .slice a W1.d.length c := by obtain ⟨a, c, h, _⟩ := s1.d; exact ⟨_, _, h⟩
  obtain ⟨ya1, yc1, rfl⟩ : ∃ a c, va1 = .slice a W1.ac.length c := by obtain ⟨a, c, h, _⟩ := s1.ac; exact ⟨_, _, h⟩
  have K1 := Lib.hid (K0.out.up b1)
  have B1 := Lib.hid (B0.out.trans (b1.mono B0.out.size))
  have S1 := Lib.hid s1
  have hs1 := B1.out.size
  obtain ⟨q1, a1_0, a1_1, a1_2, a1_3, a1_4, a1_5, a1_6, a1_7, a1_8, a1_9⟩ := K1.out
  clear b1 s1 CW K0 B0
  unfold rqV
  cases kB with
  | false =>
    simp only [if_true, if_false, reduceCtorEq, Bool.true_eq_false, Bool.false_eq_true] at HCe
    go_wp2
    go_ret
    exact ⟨ret_int HCe.out.symm, (by repeat (first | exact Below.refl _ _ | exact B1.out | refine Below.setCell ?_ (by first | omega | (simp; done) | (simp; omega)) _ | refine Below.alloc ?_ (by first | omega | (simp; done) | (simp; omega)) _ | refine Below.drew ?_ | refine below_drewN ?_ _))⟩
  | true =>
  simp only [if_true, if_false, reduceCtorEq, Bool.true_eq_false, Bool.false_eq_true] at HCe
  have bx := (Below.refl w1.heap.size w1).alloc (Nat.le_refl _) (.cells #[.int .i64 W1.k, .int .i64 W1.u, .string W1.p, .string W1.t, .int .i64 W1.off, .int .i64 W1.sz, .slice xa1 W1.d.length xc1, .slice ya1 W1.ac.length yc1, .string W1.a.n, .string W1.a.v] 30)
  have B2 := Lib.hid (B1.out.trans (bx.mono B1.out.size))
  have K2 := Lib.hid (K1.out.up bx)
  have S2 := Lib.hid (S1.out.up bx)
  clear bx S1 K1
  go_wp2_with fail
  refine (CU.out _).mono ?_
  rintro e w' ⟨rfl, rfl⟩
  cases uB with
  | false =>
    simp only [if_true, if_false, reduceCtorEq, Bool.true_eq_false, Bool.false_eq_true] at HCe
    go_wp2
    go_ret
    exact ⟨ret_int HCe.out.symm, (by repeat (first | exact Below.refl _ _ | exact B1.out | refine Below.setCell ?_ (by first | omega | (simp; done) | (simp; omega)) _ | refine Below.alloc ?_ (by first | omega | (simp; done) | (simp; omega)) _ | refine Below.drew ?_ | refine below_drewN ?_ _))⟩
  | true =>
  simp only [if_true, if_false, reduceCtorEq, Bool.true_eq_false, Bool.false_eq_true] at HCe
  have CB2 := Lib.hid (CB.out _ _ _ S2.out)
  unfold rqV at CB2
  clear CB S2
  have U2 := RqB.new w1 W1.k W1.u W1.p W1.t W1.off W1.sz (.slice xa1 W1.d.length xc1) (.slice ya1 W1.ac.length yc1) W1.a.n W1.a.v 30
  generalize hW2 : w1.alloc _ = w2 at *
  generalize w1.heap.size = n1 at *
  obtain ⟨r1, u0, u1, u2, u3, u4, u5, u6, u7, u8, u9⟩ := U2
  clear hW2 a1_0 a1_1 a1_2 a1_3 a1_4 a1_5 a1_6 a1_7 a1_8 a1_9 q1
  obtain ⟨q2, a2_0, a2_1, a2_2, a2_3, a2_4, a2_5, a2_6, a2_7, a2_8, a2_9⟩ := K2.out
  go_wp2_with fail
  refine CB2.out.mono ?_
  rintro e w3 ⟨rfl, b3⟩
  have K3 := Lib.hid (K2.out.up b3)
  have B3 := Lib.hid (B2.out.trans (b3.mono B2.out.size))
  clear b3 CB2 K2 B1 B2 r1 u0 u1 u2 u3 u4 u5 u6 u7 u8 u9 a2_0 a2_1 a2_2 a2_3 a2_4 a2_5 a2_6 a2_7 a2_8 a2_9 q2 hs1
  obtain ⟨q3, a3_0, a3_1, a3_2, a3_3, a3_4, a3_5, a3_6, a3_7, a3_8, a3_9⟩ := K3.out
  cases bB with
  | false =>
    simp only [if_true, if_false, reduceCtorEq, Bool.true_eq_false, Bool.false_eq_true] at HCe
    go_wp2
    go_ret
    exact ⟨ret_int HCe.out.symm, (by repeat (first | exact Below.refl _ _ | exact B3.out | refine Below.setCell ?_ (by first | omega | (simp; done) | (simp; omega)) _ | refine Below.alloc ?_ (by first | omega | (simp; done) | (simp; omega)) _ | refine Below.drew ?_ | refine below_drewN ?_ _))⟩
  | true =>
  simp only [if_true, if_false, reduceCtorEq, Bool.true_eq_false, Bool.false_eq_true] at HCe
  go_upto_region 8 with fail
  go_cut [25] from 26 to 40 (fun s25 wx => s25 = .bool (!pB || (twB && !tB)) ∧ Below w.heap.size w wx ∧ RqB wx w.heap.size k u p t off sz (.slice da dl dc) (.slice aa an' ac') an av)
  case first =>
    go_wp2_with fail
    refine (CP.out _ B3.out).mono ?_
    rintro e w4 ⟨rfl, b4⟩
    have K4 := Lib.hid (K3.out.up b4)
    have B4 := Lib.hid (B3.out.trans (b4.mono B3.out.size))
    clear b4
    obtain ⟨q4, a4_0, a4_1, a4_2, a4_3, a4_4, a4_5, a4_6, a4_7, a4_8, a4_9⟩ := K4.out
    cases pB with
    | false =>
      go_wp2_with fail
      go_meet
      case rel => exact ⟨rfl, B4.out, K4.out⟩
    | true =>
      go_wp2_with fail
      refine (C2.out _).mono ?_
      rintro e w' ⟨rfl, rfl⟩
      cases twB with
      | false =>
        go_wp2_with fail
        go_meet
        case rel => exact ⟨rfl, B4.out, K4.out⟩
      | true =>
        go_wp2_with fail
        refine (CT.out _ B4.out).mono ?_
        rintro e w5 ⟨rfl, b5⟩
        have K5 := Lib.hid (K4.out.up b5)
        have B5 := Lib.hid (B4.out.trans (b5.mono B4.out.size))
        clear b5
        cases tB with
        | false =>
          go_wp2_with fail
          go_meet
          case rel => exact ⟨rfl, B5.out, K5.out⟩
        | true =>
          go_wp2_with fail
          go_meet
          case rel => exact ⟨rfl, B5.out, K5.out⟩
  case rest =>
  obtain ⟨rfl, b5, k5⟩ := hcut
  have B5 := Lib.hid b5
  have K5 := Lib.hid k5
  clear b5 k5 B3 K3 CP CT C2 CU a3_0 a3_1 a3_2 a3_3 a3_4 a3_5 a3_6 a3_7 a3_8 a3_9 q3
  obtain ⟨w6, rfl⟩ : ∃ w6 : World, w6 = wc := ⟨_, rfl⟩
  obtain ⟨q5, a5_0, a5_1, a5_2, a5_3, a5_4, a5_5, a5_6, a5_7, a5_8, a5_9⟩ := K5.out
  have HC2 : Hid (R = if (!pB || (twB && !tB)) = true then 12 else if oB = false then 3 else if zB = false then 3 else if 200 < dl then 2 else if vc ≠ 0 then vc else if k = 12 then ca else 0) := Lib.hid (by
    rw [HCe.out]; cases pB <;> cases twB <;> cases tB <;> rfl)
  clear HCe
  have HCe := HC2
  clear HC2
  generalize (!pB || (twB && !tB)) = xB at *
  cases xB with
  | true =>
    simp only [if_true, if_false, reduceCtorEq, Bool.true_eq_false, Bool.false_eq_true] at HCe
    go_wp2
    go_ret
    exact ⟨ret_int HCe.out.symm, (by repeat (first | exact Below.refl _ _ | exact B5.out | refine Below.setCell ?_ (by first | omega | (simp; done) | (simp; omega)) _ | refine Below.alloc ?_ (by first | omega | (simp; done) | (simp; omega)) _ | refine Below.drew ?_ | refine below_drewN ?_ _))⟩
  | false =>
  simp only [if_true, if_false, reduceCtorEq, Bool.true_eq_false, Bool.false_eq_true] at HCe
  go_upto_region 10 with fail
  go_cut [41] from 42 to 54 (fun s41 wx => s41 = .bool (!oB || !zB) ∧ ∃ q, wx = w6.drewN q)
  case first =>
    clear a5_1 a5_2 a5_3 a5_6 a5_7 a5_8 a5_9 CV CS HCe B5 K5 hdc hdl
    cases oB with
    | false =>
      go_quiet ((go_at_call 116; rw [← HM1.out]; exact Calls.quiet_of_same (CO.out _)))
      go_wp2_with fail
      go_meet
      case rel => exact ⟨rfl, _, rfl⟩
    | true =>
      go_quiet (first | (go_at_call 120; exact Calls.quiet_of_same (CM.out _)) | (go_at_call 116; first | (rw [← HM1.out]; exact Calls.quiet_of_same (CO.out _)) | exact Calls.quiet_of_same (CZ.out _)) | fail)
      go_wp2_with fail
      go_meet
      case rel => cases zB <;> exact ⟨rfl, _, rfl⟩
  case rest =>
  obtain ⟨rfl, q, hq⟩ := hcut
  have K6 := Lib.hid (show RqB wc w.heap.size k u p t off sz (.slice da dl dc) (.slice aa an' ac') an av by subst hq; exact ⟨K5.out.lt, K5.out.c0, K5.out.c1, K5.out.c2, K5.out.c3, K5.out.c4, K5.out.c5, K5.out.c6, K5.out.c7, K5.out.c8, K5.out.c9⟩)
  have B6 := Lib.hid (show Below w.heap.size w wc by subst hq; exact below_drewN B5.out _)
  clear hq B5 K5 a5_0 a5_1 a5_2 a5_3 a5_4 a5_5 a5_6 a5_7 a5_8 a5_9 q5 CO CM CZ HM1
  obtain ⟨w7, rfl⟩ : ∃ w7 : World, w7 = wc := ⟨_, rfl⟩
  obtain ⟨q6, a6_0, a6_1, a6_2, a6_3, a6_4, a6_5, a6_6, a6_7, a6_8, a6_9⟩ := K6.out
  have HC2 : Hid (R = if (!oB || !zB) = true then 3 else if 200 < dl then 2 else if vc ≠ 0 then vc else if k = 12 then ca else 0) := Lib.hid (by
    rw [HCe.out]; cases oB <;> cases zB <;> rfl)
  clear HCe
  have HCe := HC2
  clear HC2
  generalize (!oB || !zB) = yB at *
  have hs6 := B6.out.size
  cases yB with
  | true =>
    simp only [if_true, if_false, reduceCtorEq, Bool.true_eq_false, Bool.false_eq_true] at HCe
    go_wp2
    go_ret
    exact ⟨ret_int HCe.out.symm, (by repeat (first | exact Below.refl _ _ | exact B6.out | refine Below.setCell ?_ (by first | omega | (simp; done) | (simp; omega)) _ | refine Below.alloc ?_ (by first | omega | (simp; done) | (simp; omega)) _ | refine Below.drew ?_ | refine below_drewN ?_ _))⟩
  | false =>
  simp only [if_true, if_false, reduceCtorEq, Bool.true_eq_false, Bool.false_eq_true] at HCe
  by_cases h2 : 200 < dl
  · rw [if_pos h2] at HCe
    have h2z : (200 : Int) < (dl : Int) := by omega
    go_wp2
    go_ret
    exact ⟨ret_int HCe.out.symm, B6.out⟩
  · rw [if_neg h2] at HCe
    have h2z : decide ((200 : Int) < (dl : Int)) = false := by rw [decide_eq_false_iff_not]; omega
    clear h2
    go_wp2_with fail
    refine (CV.out _ B6.out).mono ?_
    rintro e w8 ⟨rfl, b8⟩
    have K8 := Lib.hid (K6.out.up b8)
    have B8 := Lib.hid (B6.out.trans (b8.mono B6.out.size))
    clear b8 K6 B6 CV a6_0 a6_1 a6_2 a6_3 a6_4 a6_5 a6_6 a6_7 a6_8 a6_9 q6 h2z
    have hs8 := B8.out.size
    obtain ⟨q8, a8_0, a8_1, a8_2, a8_3, a8_4, a8_5, a8_6, a8_7, a8_8, a8_9⟩ := K8.out
    by_cases hv : vc = 0
    · subst hv
      simp only [ne_eq, not_true_eq_false, if_false] at HCe
      have K9 := Lib.hid (K8.out.up ((Below.refl w8.heap.size w8).alloc (Nat.le_refl _) (.cells #[.int .i64 0, .int .i64 vi] 37)))
      have B9 := Lib.hid (B8.out.alloc hs8 (.cells #[.int .i64 0, .int .i64 vi] 37))
      by_cases hk : k = 12
      · subst hk
        rw [if_pos rfl] at HCe
        go_wp2_with fail
        refine (CS.out _).mono ?_
        rintro e w10 ⟨v, rfl, _, b10⟩
        have B10 := Lib.hid (B9.out.trans (b10.mono B9.out.size))
        have hs10 := B10.out.size
        clear b10
        go_wp2
        go_ret
        exact ⟨ret_int HCe.out.symm, (by repeat (first | exact Below.refl _ _ | exact B10.out | refine Below.setCell ?_ (by first | omega | (simp; done) | (simp; omega)) _ | refine Below.alloc ?_ (by first | omega | (simp; done) | (simp; omega)) _ | refine Below.drew ?_ | refine below_drewN ?_ _))⟩
      · rw [if_neg hk] at HCe
        have hk1 : (k == 12) = false := by simpa using hk
        clear hk
        go_wp2
        go_ret
        exact ⟨ret_int HCe.out.symm, B9.out⟩
    · have hv1 : (vc != 0) = true := by simpa using hv
      rw [if_pos hv] at HCe
      clear hv
      go_wp2
      go_ret
      exact ⟨ret_int HCe.out.symm, (by repeat (first | exact Below.refl _ _ | exact B8.out | refine Below.setCell ?_ (by first | omega | (simp; done) | (simp; omega)) _ | refine Below.alloc ?_ (by first | omega | (simp; done) | (simp; omega)) _ | refine Below.drew ?_ | refine below_drewN ?_ _))⟩

set_option maxHeartbeats 1000000 in
theorem validateRequest_any (r : Rq) (vd va : Value) (w : World) (gm : GM w) (h : RqS w w.heap.size vd va r) :
    Calls Tryz.prog 31 #[rqV r vd va] w fun e w' => e = .returned (faultV (rqC r) 0) ∧ Below w.heap.size w w' := by
  have hsd : ∃ a n c, vd = .slice a n c := by obtain ⟨a, c, h, _⟩ := h.d; exact ⟨_, _, _, h⟩
  have hsa : ∃ a n c, va = .slice a n c := by obtain ⟨a, c, h, _⟩ := h.ac; exact ⟨_, _, _, h⟩
  obtain ⟨da, dn, dc, rfl⟩ := hsd
  obtain ⟨aa, an', ac', rfl⟩ := hsa
  have C := Lib.hid (fun W (hb : Below w.heap.size w W) => checkRequest_any r _ _ W (gm.below hb) (h.up hb))
  have B0 := Lib.hid (show Below w.heap.size w ((w.alloc (.cells #[.int .i64 r.k, .int .i64 r.u, .string r.p, .string r.t, .int .i64 r.off, .int .i64 r.sz, .slice da dn dc, .slice aa an' ac', .string r.a.n, .string r.a.v] 30)).alloc (.cells #[.int .i64 0, .int .i64 0] 37)) from ((Below.refl _ _).alloc (Nat.le_refl _) _).alloc (by simp) _)
  have F0 := Lib.hid (show FBox ((w.alloc (.cells #[.int .i64 r.k, .int .i64 r.u, .string r.p, .string r.t, .int .i64 r.off, .int .i64 r.sz, .slice da dn dc, .slice aa an' ac', .string r.a.n, .string r.a.v] 30)).alloc (.cells #[.int .i64 0, .int .i64 0] 37)) (w.heap.size + 1) 0 0 from (FBox.new (w.alloc _) 0 0 _).at_ (by simp))
  clear h gm
  unfold rqV at *
  generalize rqC r = R at *
  go_enter Tryz.func31, Tryz.ntmps31
  go_wp2_with fail
  refine (C.out _ B0.out).mono ?_
  rintro e w1 ⟨rfl, b1⟩
  have F1 := F0.out.below b1 F0.out.lt
  have B1 := Lib.hid (B0.out.trans (b1.mono B0.out.size))
  obtain ⟨l1, f0, f1, z0, z1⟩ := F1
  clear b1
  go_wp2
  exact bodyPost_ret (v := faultV R 0) (by simp [results, Tryz.results31, faultV, go_sem, f0, f1]) rfl ⟨rfl, (by repeat (first | exact Below.refl _ _ | exact B1.out | refine Below.setCell ?_ (by first | omega | (simp; done) | (simp; omega)) _ | refine Below.alloc ?_ (by first | omega | (simp; done) | (simp; omega)) _ | refine Below.drew ?_ | refine below_drewN ?_ _))⟩

end Go.Proofs.YtmbbmmnpkdfecaaGreatDoor
