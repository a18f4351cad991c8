/- Requests: what a request's value reads as; leaves of package memfs on requests: isBetween, usesTarget, maxSize, isBlank, isPath. Conditions: the request's slices lie in memory as they read. -/
import Derived.Test.YtfealpehdjeckaaDoorFsTree
import Derived.Test.YtfealpehdjeckaaDoorMfKit
import Derived.Test.YtfealpehdjeckaaDoorPathSplit
import Derived.BigQuiet
namespace Go.Proofs.YtfealpehdjeckaaDoor
open Go.RowKit

/-- A request. -/
structure Rq where
  k : Int
  u : Int
  p : ByteArray
  t : ByteArray
  off : Int
  sz : Int
  d : List UInt8
  ac : List Ent
  a : Attr
/-- The slice value v reads as the bytes d, all of it below block B. -/
def Byts (w : World) (B : Nat) (v : Value) (d : List UInt8) : Prop :=
  ∃ a c, v = .slice a d.length c ∧ d.length ≤ c ∧ d.length ≤ 140737488355328 ∧
    (0 < d.length → ∃ b o, a = some ⟨b, o, none⟩ ∧ b < B ∧ ∀ j, j < d.length → w.cell? ⟨b, o + j, none⟩ = some (.int .u8 ((d.getD j 0).toNat : Int)))
theorem Byts.keep {w w' : World} {B : Nat} {v : Value} {d : List UInt8} (h : Byts w B v d) (hk : ∀ b o, b < B → w'.cell? ⟨b, o, none⟩ = w.cell? ⟨b, o, none⟩) : Byts w' B v d := by
  obtain ⟨a, c, hv, hc, hl, hx⟩ := h
  refine ⟨a, c, hv, hc, hl, fun h0 => ?_⟩
  obtain ⟨b, o, ha, hB, hj⟩ := hx h0
  exact ⟨b, o, ha, hB, fun j h => (hk _ _ hB).trans (hj j h)⟩
theorem Byts.more {w : World} {B B' : Nat} {v : Value} {d : List UInt8} (h : Byts w B v d) (hB : B ≤ B') : Byts w B' v d := by
  obtain ⟨a, c, hv, hc, hl, hx⟩ := h
  refine ⟨a, c, hv, hc, hl, fun h0 => ?_⟩
  obtain ⟨b, o, ha, hb, hj⟩ := hx h0
  exact ⟨b, o, ha, by omega, hj⟩
theorem Byts.up {w w' : World} {v : Value} {d : List UInt8} (h : Byts w w.heap.size v d) (hb : Below w.heap.size w w') : Byts w' w'.heap.size v d :=
  (h.keep fun b o hB => hb.cell (p := ⟨b, o, none⟩) hB).more hb.size
theorem Byts.none_ (w : World) (B : Nat) : Byts w B (.slice none 0 0) [] :=
  ⟨none, 0, rfl, by simp, by simp, fun h => absurd h (by simp)⟩
/-- What lies in memory of a request. -/
structure RqS (w : World) (B : Nat) (vd va : Value) (r : Rq) : Prop where
  d : Byts w B vd r.d
  ac : Acls w B va r.ac
  k : i64 r.k
  u : i64 r.u
  off : i64 r.off
  sz : i64 r.sz
  p : r.p.size ≤ maxLen
  t : r.t.size ≤ maxLen
  a : r.a.fits
theorem RqS.keep {w w' : World} {B : Nat} {vd va : Value} {r : Rq} (h : RqS w B vd va r) (hk : ∀ b o, b < B → w'.cell? ⟨b, o, none⟩ = w.cell? ⟨b, o, none⟩) : RqS w' B vd va r :=
  ⟨h.d.keep hk, h.ac.keep hk, h.k, h.u, h.off, h.sz, h.p, h.t, h.a⟩
theorem RqS.more {w : World} {B B' : Nat} {vd va : Value} {r : Rq} (h : RqS w B vd va r) (hB : B ≤ B') : RqS w B' vd va r :=
  ⟨h.d.more hB, h.ac.more hB, h.k, h.u, h.off, h.sz, h.p, h.t, h.a⟩
theorem RqS.up {w w' : World} {vd va : Value} {r : Rq} (h : RqS w w.heap.size vd va r) (hb : Below w.heap.size w w') : RqS w' w'.heap.size vd va r :=
  (h.keep fun b o hB => hb.cell (p := ⟨b, o, none⟩) hB).more hb.size
/-- A request as a value. -/
def rqV (r : Rq) (vd va : Value) : Value := .agg #[.int .i64 r.k, .int .i64 r.u, .string r.p, .string r.t, .int .i64 r.off, .int .i64 r.sz, vd, va, .string r.a.n, .string r.a.v]

set_option maxHeartbeats 400000 in
theorem mBetween_any (n m : Int) (w : World) :
    Calls Tryd.prog 12 #[.int .i64 n, .int .i64 m] w fun e w' => e = .returned (.bool (decide (0 ≤ n ∧ n ≤ m))) ∧ w' = w := by
  go_enter Tryd.func12, Tryd.ntmps12
  go_wp2
  all_goals
    go_ret
    refine ⟨ret_bool ?_, rfl⟩
    first
      | (rw [decide_eq_decide]; omega)
      | (symm; rw [decide_eq_false_iff_not]; omega)
      | (rw [Bool.eq_iff_iff]; simp; omega)

def twoB (k : Int) : Bool := decide (k = 9 ∨ k = 10)
set_option maxHeartbeats 400000 in
theorem usesTarget_any (k : Int) (w : World) :
    Calls Tryd.prog 15 #[.int .i64 k] w fun e w' => e = .returned (.bool (twoB k)) ∧ w' = w := by
  unfold twoB
  go_enter Tryd.func15, Tryd.ntmps15
  go_wp2
  all_goals
    go_ret
    refine ⟨ret_bool ?_, rfl⟩
    rw [Bool.eq_iff_iff]; simp; try omega

def maxSz (k : Int) : Int := if k = 13 then 100000 else if k = 14 then 7 else 1000000
set_option maxHeartbeats 400000 in
theorem maxSize_any (k : Int) (w : World) :
    Calls Tryd.prog 16 #[.int .i64 k] w fun e w' => e = .returned (.int .i64 (maxSz k)) ∧ w' = w := by
  have HM := Lib.hid (show maxSz k = if k = 13 then 100000 else if k = 14 then 7 else 1000000 from rfl)
  generalize maxSz k = r at *
  go_enter Tryd.func16, Tryd.ntmps16
  by_cases h1 : k = 13
  · subst h1
    go_wp2
    go_ret
    exact ⟨ret_int HM.out.symm, rfl⟩
  · rw [if_neg h1] at HM
    by_cases h2 : k = 14
    · subst h2
      go_wp2
      go_ret
      exact ⟨ret_int HM.out.symm, rfl⟩
    · rw [if_neg h2] at HM
      have e1 : (k == 13) = false := by simpa using h1
      have e2 : (k == 14) = false := by simpa using h2
      clear h1 h2
      go_wp2
      go_ret
      exact ⟨ret_int HM.out.symm, rfl⟩

def pathB (p : ByteArray) : Bool := decide ((splitF p).1 = 0)
set_option maxHeartbeats 400000 in
theorem isPath_any (p : ByteArray) (w : World) (gm : GM w) (hp : p.size ≤ maxLen) :
    Calls Tryd.prog 14 #[.string p] w fun e w' => e = .returned (.bool (pathB p)) ∧ Below w.heap.size w w' := by
  have C := pathSplit_any p w gm hp
  have HB := Lib.hid (show pathB p = decide ((splitF p).1 = 0) from rfl)
  generalize pathB p = q at *
  unfold SplitPost at C
  generalize (splitF p).1 = c at *
  generalize (splitF p).2 = i at *
  go_enter Tryd.func14, Tryd.ntmps14
  go_wp2_with fail
  refine C.mono ?_
  rintro e w' ⟨v, rfl, _, b1, _⟩
  have hs := b1.size
  go_wp2
  go_ret
  refine ⟨ret_bool ?_, b1.alloc hs _⟩
  rw [HB.out, Bool.eq_iff_iff]; simp

/-- No field that not every kind uses is set. -/
def blankB (r : Rq) : Bool := decide (r.t = ByteArray.empty ∧ r.off = 0 ∧ r.sz = 0 ∧ r.d.length = 0 ∧ r.ac.length = 0 ∧ r.a.n = ByteArray.empty ∧ r.a.v = ByteArray.empty)

set_option maxHeartbeats 1000000 in
theorem isBlank_any (r : Rq) (vd va : Value) (w : World) (h : RqS w w.heap.size vd va r) :
    Calls Tryd.prog 13 #[rqV r vd va] w fun e w' => e = .returned (.bool (blankB r)) ∧ Below w.heap.size w w' := by
  obtain ⟨⟨da, dc, rfl, hdc, hdl, _⟩, ⟨aa, ac, rfl, hac, hal, _, _⟩, _, _, _, _, _, _, _⟩ := h
  unfold rqV
  have HB := Lib.hid (show blankB r = decide (r.t = ByteArray.empty ∧ r.off = 0 ∧ r.sz = 0 ∧ r.d.length = 0 ∧ r.ac.length = 0 ∧ r.a.n = ByteArray.empty ∧ r.a.v = ByteArray.empty) from rfl)
  generalize blankB r = q at *
  generalize r.d.length = n1 at *
  generalize r.ac.length = n2 at *
  obtain ⟨k, u, p, t, off, sz, d, acl, an, av⟩ := r
  simp only at *
  go_enter Tryd.func13, Tryd.ntmps13
  go_wp2
  all_goals
    go_ret
    refine ⟨ret_bool ?_, (Below.refl _ _).alloc (Nat.le_refl _) _⟩
    rw [HB.out]
    simp_all [toList_nil]

end Go.Proofs.YtfealpehdjeckaaDoor
