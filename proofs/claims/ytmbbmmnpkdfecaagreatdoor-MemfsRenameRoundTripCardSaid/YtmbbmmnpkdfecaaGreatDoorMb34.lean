/- Package memfs and what it calls, at this seat's translation.
   Condition: as each theorem states; this text: MfExample, MfLaw0. -/
import Derived.Test.YtmbbmmnpkdfecaaGreatDoorMb33
import Derived.Test.YtmbbmmnpkdfecaaGreatDoorMb30
import Derived.Lib.SlBytesConst

set_option linter.all false

/- memfsExample returns true. Conditions: the door's variable lies in memory. -/

set_option linter.all false
namespace Go.Proofs.YtmbbmmnpkdfecaaGreatDoor
open Go.RowKit

/-- Run of few valid requests. -/
theorem runOk_any (a : Option Addr) (c : Nat) (l : List Rq) (w : World) (gm : GM w) (h : Rqs w w.heap.size a c l) (hl : l.length ≤ 60) (hq : (rqsC l).1 = 0) :
    Calls Tryz.prog 19 #[.slice a l.length c] w fun e w' => Below w.heap.size w w' ∧ ∃ g cap sl R, e = .returned (.tuple #[.agg #[.slice (some ⟨g, 0, none⟩) (runF T0 l).1.length cap], .slice (some ⟨R, 0, none⟩) l.length l.length, .agg #[.int .i64 0, .int .i64 0]]) ∧ OT w' w.heap.size g cap sl (runF T0 l).1 ∧ w.heap.size ≤ R ∧ R < w'.heap.size ∧ Rps w' w.heap.size R (runF T0 l).2 :=
  (run_any a c l w gm h).mono fun e w' ⟨h1, h2⟩ => by
    rw [if_neg (by omega), if_neg (by simpa using hq)] at h2
    exact ⟨h1, h2⟩
def exA : ByteArray := ⟨#[47, 97]⟩
def exF : ByteArray := ⟨#[47, 97, 47, 102]⟩
def exL : List Rq := [⟨1, 0, exA, ⟨#[]⟩, 0, 0, [], [], A0⟩, ⟨2, 0, exF, ⟨#[]⟩, 0, 0, [], [], A0⟩, ⟨4, 0, exF, ⟨#[]⟩, 2, 0, [120, 121, 122], [], A0⟩]
theorem exL_ok : (rqsC exL).1 = 0 := by decide +kernel
theorem exL_run : (runF T0 exL).1.length = 3 ∧ (ino (runF T0 exL).1 2).d = [0, 0, 120, 121, 122] ∧ (runF T0 exL).2.length = 3 ∧ ((runF T0 exL).2.getD 2 Rp0).c = 0 ∧ ((runF T0 exL).2.getD 2 Rp0).s.z = 5 := by decide +kernel

abbrev exCells (Q : Nat) : List Value := [.int .i64 1, .int .i64 0, .string exA, .string ⟨#[]⟩, .int .i64 0, .int .i64 0, .slice none 0 0, .slice none 0 0, .string ⟨#[]⟩, .string ⟨#[]⟩,
  .int .i64 2, .int .i64 0, .string exF, .string ⟨#[]⟩, .int .i64 0, .int .i64 0, .slice none 0 0, .slice none 0 0, .string ⟨#[]⟩, .string ⟨#[]⟩,
  .int .i64 4, .int .i64 0, .string exF, .string ⟨#[]⟩, .int .i64 2, .int .i64 0, .slice (some ⟨Q, 0, none⟩) 3 3, .slice none 0 0, .string ⟨#[]⟩, .string ⟨#[]⟩]
theorem ex_rqs {w : World} {Q P : Nat} (hP : Blk w P (exCells Q)) (hQ : Q < w.heap.size) (q0 : w.cell? ⟨Q, 0, none⟩ = some (.int .u8 120)) (q1 : w.cell? ⟨Q, 1, none⟩ = some (.int .u8 121)) (q2 : w.cell? ⟨Q, 2, none⟩ = some (.int .u8 122)) : Rqs w w.heap.size (some ⟨P, 0, none⟩) 3 exL := by
  have z : ∀ k : Int, 0 ≤ k → k ≤ 10 → i64 k := fun k h0 h1 => by unfold i64; omega
  have sz : ∀ b : ByteArray, b.size ≤ 100 → b.size ≤ maxLen := fun b h => by unfold maxLen; omega
  refine ⟨by decide, by decide, fun _ => ⟨P, 0, rfl, hP.lt, fun j hj => ?_⟩⟩
  have hj3 : j < 3 := hj
  match j, hj3 with
  | 0, _ => exact ⟨.slice none 0 0, .slice none 0 0, ⟨hP.c 0 _ rfl, hP.c 1 _ rfl, hP.c 2 _ rfl, hP.c 3 _ rfl, hP.c 4 _ rfl, hP.c 5 _ rfl, hP.c 6 _ rfl, hP.c 7 _ rfl, hP.c 8 _ rfl, hP.c 9 _ rfl⟩,
      ⟨Byts.none_ _ _, Acls.none_ _ _, z 1 (by decide) (by decide), z 0 (by decide) (by decide), z 0 (by decide) (by decide), z 0 (by decide) (by decide), sz _ (by decide), sz _ (by decide), ⟨sz _ (by decide), sz _ (by decide)⟩⟩⟩
  | 1, _ => exact ⟨.slice none 0 0, .slice none 0 0, ⟨hP.c 10 _ rfl, hP.c 11 _ rfl, hP.c 12 _ rfl, hP.c 13 _ rfl, hP.c 14 _ rfl, hP.c 15 _ rfl, hP.c 16 _ rfl, hP.c 17 _ rfl, hP.c 18 _ rfl, hP.c 19 _ rfl⟩,
      ⟨Byts.none_ _ _, Acls.none_ _ _, z 2 (by decide) (by decide), z 0 (by decide) (by decide), z 0 (by decide) (by decide), z 0 (by decide) (by decide), sz _ (by decide), sz _ (by decide), ⟨sz _ (by decide), sz _ (by decide)⟩⟩⟩
  | 2, _ =>
    refine ⟨.slice (some ⟨Q, 0, none⟩) 3 3, .slice none 0 0, ⟨hP.c 20 _ rfl, hP.c 21 _ rfl, hP.c 22 _ rfl, hP.c 23 _ rfl, hP.c 24 _ rfl, hP.c 25 _ rfl, hP.c 26 _ rfl, hP.c 27 _ rfl, hP.c 28 _ rfl, hP.c 29 _ rfl⟩,
      ⟨⟨_, _, rfl, by decide, by decide, fun _ => ⟨Q, 0, rfl, hQ, fun j hj => ?_⟩⟩, Acls.none_ _ _, z 4 (by decide) (by decide), z 0 (by decide) (by decide), z 2 (by decide) (by decide), z 0 (by decide) (by decide), sz _ (by decide), sz _ (by decide), ⟨sz _ (by decide), sz _ (by decide)⟩⟩⟩
    have hj3 : j < 3 := hj
    match j, hj3 with
    | 0, _ => exact q0
    | 1, _ => exact q1
    | 2, _ => exact q2

set_option maxRecDepth 100000 in
set_option maxHeartbeats 1600000 in
theorem example_any (w : World) (gm : GM w) :
    Calls Tryz.prog 14 #[] w fun e w' => e = .returned (.bool true) ∧ Below w.heap.size w w' := by
  have kc := fun (w : World) (C : Array Value) (n c : Nat) => Lib.run_convert_bytes_const (P := Tryz.prog) w 25 5 C n c Tryz.underlying25 Tryz.underlying5
  have B0 := Lib.hid (((Below.refl w.heap.size w).alloc (Nat.le_refl _) (.cells #[.int .u8 120, .int .u8 121, .int .u8 122] 5 (3, 4))).alloc (by simp) (.cells (exCells w.heap.size).toArray 30))
  have K0 := Lib.hid ((Blk.new (w.alloc (.cells #[.int .u8 120, .int .u8 121, .int .u8 122] 5 (3, 4))) (exCells w.heap.size) 30).at_ (show _ = w.heap.size + 1 by simp))
  have Q0 : Hid (∀ j v, [Value.int .u8 120, .int .u8 121, .int .u8 122][j]? = some v → ((w.alloc (.cells #[.int .u8 120, .int .u8 121, .int .u8 122] 5 (3, 4))).alloc (.cells (exCells w.heap.size).toArray 30)).cell? ⟨w.heap.size, j, none⟩ = some v) := Lib.hid (fun j v h => Lib.cell?_alloc_marked _ ((World.cell?_alloc_mark w _ _ _ j).trans (by simpa using h)))
  have CR := Lib.hid (runOk_any (some ⟨w.heap.size + 1, 0, none⟩) 3 exL _ (gm.below B0.out) (ex_rqs K0.out (by simp; omega) (Q0.out 0 _ rfl) (Q0.out 1 _ rfl) (Q0.out 2 _ rfl)) (by decide) exL_ok)
  obtain ⟨r1, r2, r3, r4, r5⟩ := exL_run
  rw [r1, show exL.length = 3 from rfl] at CR
  simp only [exCells, exA, exF] at CR
  clear Q0 K0
  simp only [exCells, exA, exF] at B0
  go_enter Tryz.func14, Tryz.ntmps14
  go_wp2_with fail
  refine CR.out.mono ?_
  rintro e w3 ⟨hb, g, cap, sl, R, rfl, ho, hR1, hR2, hps⟩
  obtain ⟨vd, vn, ⟨c0, _, _, _, _, _, c6, _, _⟩, _⟩ := hps 2 (by rw [r3]; decide)
  rw [r4] at c0
  rw [r5] at c6
  have hl2 : 2 < (runF T0 exL).1.length := by rw [r1]; decide
  have hby := (ho.r 2 hl2).byts (ho.fit 2 hl2)
  have g3 := ho.c 2 hl2 3 _ rfl
  have gl := ho.lt.2
  rw [r2] at hby
  generalize (sl 2).d = dv at *
  obtain ⟨da, dc, rfl, hdd⟩ := id hby
  clear hdd
  have B1 := Lib.hid (((B0.out.trans (hb.mono B0.out.size)).alloc (Nat.le_trans B0.out.size hb.size) (.cells #[.slice (some ⟨g, 0, none⟩) 3 cap] 24)).alloc (Nat.le_trans (Nat.le_trans B0.out.size hb.size) (by simp)) (.cells #[.int .i64 0, .int .i64 0] 37))
  have T := Lib.hid (two_new w3 [.slice (some ⟨g, 0, none⟩) 3 cap] [.int .i64 0, .int .i64 0] 24 37)
  have kc1 := byts_str (hby.up T.out.1)
  have HP := Lib.hid hb
  clear hb ho hR1 hps hby kc B0 CR gm r1 r2 r3 r4 r5 hl2
  go_upto_region 2 with fail
  have e0 := (T.out.1.cell (p := ⟨R, 2 * 9, none⟩) hR2).trans c0
  have e6 := (T.out.1.cell (p := ⟨R, 2 * 9 + 6, none⟩) hR2).trans c6
  have e3 := (T.out.1.cell (p := ⟨g, 2 * 8 + 3, none⟩) gl).trans g3
  have k0 := T.out.2.1.c 0 _ rfl
  have m0 := T.out.2.2.c 0 _ rfl
  have kl := T.out.2.1.lt
  have ml := T.out.2.2.lt
  have R2' := Nat.lt_of_lt_of_le hR2 T.out.1.size
  have gl2 := Nat.lt_of_lt_of_le gl T.out.1.size
  have B2 := Lib.hid (show Below w.heap.size w ((w3.alloc (.cells #[.slice (some ⟨g, 0, none⟩) 3 cap] 24)).alloc (.cells #[.int .i64 0, .int .i64 0] 37)) from B1.out)
  have hs : toB [0, 0, 120, 121, 122] = ⟨#[0, 0, 120, 121, 122]⟩ := rfl
  rw [hs] at kc1
  simp only [Nat.reduceMul, Nat.reduceAdd] at e0 e6 e3
  clear T B1 HP
  generalize (w3.alloc (.cells #[.slice (some ⟨g, 0, none⟩) 3 cap] 24)).alloc (.cells #[.int .i64 0, .int .i64 0] 37) = w4 at *
  generalize w3.heap.size = C at *
  generalize C + 1 = D at *
  have h5 : ([0, 0, 120, 121, 122] : List UInt8).length = 5 := rfl
  rw [h5] at kc1 e3
  go_wp2
  go_ret
  exact ⟨rfl, B2.out⟩

end Go.Proofs.YtmbbmmnpkdfecaaGreatDoor

/- Words that the laws of one request share. Conditions: the tree and the request lie in memory as they read; the door's variable lies in memory. -/

set_option linter.all false
namespace Go.Proofs.YtmbbmmnpkdfecaaGreatDoor
open Go.RowKit

theorem three_new (w : World) (l m n : List Value) (T U V : TypeId) : Below w.heap.size w (((w.alloc (.cells l.toArray T)).alloc (.cells m.toArray U)).alloc (.cells n.toArray V)) ∧ Blk (((w.alloc (.cells l.toArray T)).alloc (.cells m.toArray U)).alloc (.cells n.toArray V)) w.heap.size l
    ∧ Blk (((w.alloc (.cells l.toArray T)).alloc (.cells m.toArray U)).alloc (.cells n.toArray V)) (w.heap.size + 1) m ∧ Blk (((w.alloc (.cells l.toArray T)).alloc (.cells m.toArray U)).alloc (.cells n.toArray V)) (w.heap.size + 1 + 1) n :=
  ⟨(((Below.refl _ _).alloc (Nat.le_refl _) _).alloc (by simp) _).alloc (by simp; omega) _, ((Blk.new w l T).alloc _).alloc _, ((Blk.new (w.alloc (.cells l.toArray T)) m U).at_ (by simp)).alloc _, (Blk.new ((w.alloc (.cells l.toArray T)).alloc (.cells m.toArray U)) n V).at_ (by simp)⟩
theorem apply_err {t : FT} {r : Rq} (h : (applyF t r).2.c ≠ 0) : applyF t r = (t, RpC (applyF t r).2.c) := by
  unfold applyF at h ⊢
  by_cases h1 : (perfF t r).1.2 ≠ 0
  · rw [if_pos h1]
  · rw [if_neg h1] at h ⊢
    by_cases h2 : (valT (tr (perfF t r).2)).1 ≠ 0
    · rw [if_pos h2]
    · rw [if_neg h2] at h
      exfalso
      apply h
      unfold replyF
      split
      · rfl
      · split
        · rfl
        · split <;> rfl
/-- The fault of Apply. -/
def fltF (t : FT) (r : Rq) : Int × Int := if (valT (tr t)).1 ≠ 0 then valT (tr t) else (rqC r, -1)
theorem applyFault_any (a : Option Addr) (c : Nat) (t : FT) (r : Rq) (vd va : Value) (w : World) (gm : GM w) (h : FNods w w.heap.size a c t) (hr : RqS w w.heap.size vd va r) (hbad : ¬ ((valT (tr t)).1 = 0 ∧ rqC r = 0)) :
    (fltF t r).1 ≠ 0 ∧ Calls Tryz.prog 12 #[.agg #[.slice a t.length c], rqV r vd va] w fun e w' => Below w.heap.size w w' ∧ e = .returned (.tuple #[.agg #[.slice none 0 0], rpV Rp0 (.slice none 0 0) (.slice none 0 0), .agg #[.int .i64 (fltF t r).1, .int .i64 (fltF t r).2]]) := by
  by_cases hv : (valT (tr t)).1 ≠ 0
  · refine ⟨by unfold fltF; rw [if_pos hv]; exact hv, (apply_any a c t r vd va w gm h hr).mono fun e w' ⟨h1, h2⟩ => ⟨h1, ?_⟩⟩
    rw [if_pos hv] at h2
    unfold fltF; rw [if_pos hv]; exact h2
  · have hq : rqC r ≠ 0 := fun e => hbad ⟨by simpa using hv, e⟩
    refine ⟨by unfold fltF; rw [if_neg hv]; exact hq, (apply_any a c t r vd va w gm h hr).mono fun e w' ⟨h1, h2⟩ => ⟨h1, ?_⟩⟩
    rw [if_neg hv, if_pos hq] at h2
    unfold fltF; rw [if_neg hv]; exact h2

end Go.Proofs.YtmbbmmnpkdfecaaGreatDoor
