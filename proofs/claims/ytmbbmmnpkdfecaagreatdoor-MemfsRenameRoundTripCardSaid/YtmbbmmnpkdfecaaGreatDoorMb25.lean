/- Package memfs and what it calls, at this seat's translation.
   Condition: as each theorem states; this text: MfApply0, MfApply1. -/
import Derived.Test.YtmbbmmnpkdfecaaGreatDoorMb24
import Derived.Test.YtmbbmmnpkdfecaaGreatDoorMb21

set_option linter.all false

/- Apply: the faults. Conditions: the tree and the request lie in memory as they read. -/

set_option linter.all false
namespace Go.Proofs.YtmbbmmnpkdfecaaGreatDoor
open Go.RowKit

def ApplyPost (t : FT) (r : Rq) (w : World) (e : Ending) (w' : World) : Prop :=
  Below w.heap.size w w' ∧
    if (valT (tr t)).1 ≠ 0 then e = .returned (.tuple #[.agg #[.slice none 0 0], rpV Rp0 (.slice none 0 0) (.slice none 0 0), .agg #[.int .i64 (valT (tr t)).1, .int .i64 (valT (tr t)).2]])
    else if rqC r ≠ 0 then e = .returned (.tuple #[.agg #[.slice none 0 0], rpV Rp0 (.slice none 0 0) (.slice none 0 0), .agg #[.int .i64 (rqC r), .int .i64 (-1)]])
    else ∃ g cap sl vd vn, e = .returned (.tuple #[.agg #[.slice (some ⟨g, 0, none⟩) (applyF t r).1.length cap], rpV (applyF t r).2 vd vn, .agg #[.int .i64 0, .int .i64 0]]) ∧ OT w' w.heap.size g cap sl (applyF t r).1 ∧ RpS w' w.heap.size w'.heap.size vd vn (applyF t r).2
/-- The five blocks that Apply lays at its start. -/
structure A5 (w0 w : World) (B n1 n2 n3 n4 : Nat) (a : Option Addr) (n c : Nat) (r : Rq) (vd va : Value) : Prop where
  b : Below B w0 w
  t : Blk w B [.slice a n c]
  r : Blk w n1 (rqL r vd va)
  o : Blk w n2 [.slice none 0 0]
  p : Blk w n3 zeroRp
  f : Blk w n4 [.int .i64 0, .int .i64 0]
  l1 : B < n1
  l2 : n1 < n2
  l3 : n2 < n3
  l4 : n3 < n4
theorem A5.up {w0 w w' : World} {B n1 n2 n3 n4 n c : Nat} {a : Option Addr} {r : Rq} {vd va : Value} (h : A5 w0 w B n1 n2 n3 n4 a n c r vd va) (hb : Below w.heap.size w w') : A5 w0 w' B n1 n2 n3 n4 a n c r vd va :=
  ⟨h.b.trans (hb.mono (by have := h.t.lt; omega)), h.t.up hb, h.r.up hb, h.o.up hb, h.p.up hb, h.f.up hb, h.l1, h.l2, h.l3, h.l4⟩
theorem A5.below {w0 w w' : World} {C B n1 n2 n3 n4 n c : Nat} {a : Option Addr} {r : Rq} {vd va : Value} (h : A5 w0 w B n1 n2 n3 n4 a n c r vd va) (hb : Below C w w') (hC : n4 < C) : A5 w0 w' B n1 n2 n3 n4 a n c r vd va := by
  have := h.l1; have := h.l2; have := h.l3; have := h.l4
  exact ⟨h.b.trans (hb.mono (by omega)), h.t.below hb (by omega), h.r.below hb (by omega), h.o.below hb (by omega), h.p.below hb (by omega), h.f.below hb hC, h.l1, h.l2, h.l3, h.l4⟩
theorem A5.new (w : World) (a : Option Addr) (n c : Nat) (r : Rq) (vd va : Value) :
    A5 w (((((w.alloc (.cells #[.slice a n c] 24)).alloc (.cells #[.int .i64 r.k, .int .i64 r.u, .string r.p, .string r.t, .int .i64 r.off, .int .i64 r.sz, vd, va, .string r.a.n, .string r.a.v] 30)).alloc (.cells #[.slice none 0 0] 24)).alloc (.cells #[.int .i64 0, .slice none 0 0, .slice none 0 0, .int .i64 0, .int .i64 0, .int .i64 0, .int .i64 0, .int .i64 0, .int .i64 0] 35)).alloc (.cells #[.int .i64 0, .int .i64 0] 37)) w.heap.size (w.heap.size + 1) (w.heap.size + 1 + 1) (w.heap.size + 1 + 1 + 1) (w.heap.size + 1 + 1 + 1 + 1) a n c r vd va := by
  refine ⟨(((((Below.refl _ _).alloc (Nat.le_refl _) _).alloc (by simp) _).alloc (by simp; omega) _).alloc (by simp; omega) _).alloc (by simp; omega) _, ?_, ?_, ?_, ?_, ?_, by omega, by omega, by omega, by omega⟩
  · exact ((((Blk.new w [.slice a n c] 24).alloc _).alloc _).alloc _).alloc _
  · exact ((((Blk.new (w.alloc _) (rqL r vd va) 30).alloc _).alloc _).alloc _).at_ (by simp)
  · exact (((Blk.new ((w.alloc _).alloc _) [.slice none 0 0] 24).alloc _).alloc _).at_ (by simp)
  · exact ((Blk.new (((w.alloc _).alloc _).alloc _) zeroRp 35).alloc _).at_ (by simp)
  · exact (Blk.new ((((w.alloc _).alloc _).alloc _).alloc _) [.int .i64 0, .int .i64 0] 37).at_ (by simp)
/-- The twelve cells of what Apply returns, stored. -/
theorem A5.store {w0 w : World} {B n1 n2 n3 n4 n c : Nat} {a : Option Addr} {r : Rq} {vd va : Value} (h : A5 w0 w B n1 n2 n3 n4 a n c r vd va) (T b0 b1 b2 b3 b4 b5 b6 b7 b8 f0 f1 : Value) :
    Below B w0 ((((((((((((w.setCell ⟨n2, 0, none⟩ T).setCell ⟨n3, 0, none⟩ b0).setCell ⟨n3, 1, none⟩ b1).setCell ⟨n3, 2, none⟩ b2).setCell ⟨n3, 3, none⟩ b3).setCell ⟨n3, 4, none⟩ b4).setCell ⟨n3, 5, none⟩ b5).setCell ⟨n3, 6, none⟩ b6).setCell ⟨n3, 7, none⟩ b7).setCell ⟨n3, 8, none⟩ b8).setCell ⟨n4, 0, none⟩ f0).setCell ⟨n4, 1, none⟩ f1)
    ∧ Blk ((((((((((((w.setCell ⟨n2, 0, none⟩ T).setCell ⟨n3, 0, none⟩ b0).setCell ⟨n3, 1, none⟩ b1).setCell ⟨n3, 2, none⟩ b2).setCell ⟨n3, 3, none⟩ b3).setCell ⟨n3, 4, none⟩ b4).setCell ⟨n3, 5, none⟩ b5).setCell ⟨n3, 6, none⟩ b6).setCell ⟨n3, 7, none⟩ b7).setCell ⟨n3, 8, none⟩ b8).setCell ⟨n4, 0, none⟩ f0).setCell ⟨n4, 1, none⟩ f1) n2 [T]
    ∧ Blk ((((((((((((w.setCell ⟨n2, 0, none⟩ T).setCell ⟨n3, 0, none⟩ b0).setCell ⟨n3, 1, none⟩ b1).setCell ⟨n3, 2, none⟩ b2).setCell ⟨n3, 3, none⟩ b3).setCell ⟨n3, 4, none⟩ b4).setCell ⟨n3, 5, none⟩ b5).setCell ⟨n3, 6, none⟩ b6).setCell ⟨n3, 7, none⟩ b7).setCell ⟨n3, 8, none⟩ b8).setCell ⟨n4, 0, none⟩ f0).setCell ⟨n4, 1, none⟩ f1) n3 [b0, b1, b2, b3, b4, b5, b6, b7, b8]
    ∧ Blk ((((((((((((w.setCell ⟨n2, 0, none⟩ T).setCell ⟨n3, 0, none⟩ b0).setCell ⟨n3, 1, none⟩ b1).setCell ⟨n3, 2, none⟩ b2).setCell ⟨n3, 3, none⟩ b3).setCell ⟨n3, 4, none⟩ b4).setCell ⟨n3, 5, none⟩ b5).setCell ⟨n3, 6, none⟩ b6).setCell ⟨n3, 7, none⟩ b7).setCell ⟨n3, 8, none⟩ b8).setCell ⟨n4, 0, none⟩ f0).setCell ⟨n4, 1, none⟩ f1) n4 [f0, f1] := by
  have h1 := h.l1; have h2 := h.l2; have h3 := h.l3; have h4 := h.l4
  have d32 : n3 ≠ n2 := by omega
  have d42 : n4 ≠ n2 := by omega
  have d43 : n4 ≠ n3 := by omega
  have e1 := h.o.put 0 T (by simp)
  have e2 := (h.p.far (p := ⟨n2, 0, none⟩) d32 T)
  have e3 := (h.f.far (p := ⟨n2, 0, none⟩) d42 T)
  have e0 := h.b.setCell (p := ⟨n2, 0, none⟩) (show B ≤ n2 by omega) T
  have S := store9 e2 rfl e0 (by omega) b0 b1 b2 b3 b4 b5 b6 b7 b8
  have e4 := ((((((((e3.far (p := ⟨n3, 0, none⟩) d43 b0).far (p := ⟨n3, 1, none⟩) d43 b1).far (p := ⟨n3, 2, none⟩) d43 b2).far (p := ⟨n3, 3, none⟩) d43 b3).far (p := ⟨n3, 4, none⟩) d43 b4).far (p := ⟨n3, 5, none⟩) d43 b5).far (p := ⟨n3, 6, none⟩) d43 b6).far (p := ⟨n3, 7, none⟩) d43 b7).far (p := ⟨n3, 8, none⟩) d43 b8
  have e5 := ((((((((e1.far (p := ⟨n3, 0, none⟩) d32.symm b0).far (p := ⟨n3, 1, none⟩) d32.symm b1).far (p := ⟨n3, 2, none⟩) d32.symm b2).far (p := ⟨n3, 3, none⟩) d32.symm b3).far (p := ⟨n3, 4, none⟩) d32.symm b4).far (p := ⟨n3, 5, none⟩) d32.symm b5).far (p := ⟨n3, 6, none⟩) d32.symm b6).far (p := ⟨n3, 7, none⟩) d32.symm b7).far (p := ⟨n3, 8, none⟩) d32.symm b8
  exact ⟨(S.2.setCell (p := ⟨n4, 0, none⟩) (by simp only; omega) f0).setCell (p := ⟨n4, 1, none⟩) (by simp only; omega) f1,
    (e5.far (p := ⟨n4, 0, none⟩) d42.symm f0).far (p := ⟨n4, 1, none⟩) d42.symm f1,
    (S.1.far (p := ⟨n4, 0, none⟩) d43.symm f0).far (p := ⟨n4, 1, none⟩) d43.symm f1,
    (e4.put 0 f0 (by simp)).put 1 f1 (by simp)⟩

set_option maxRecDepth 100000 in
set_option maxHeartbeats 3200000 in
theorem applyBad_any (a : Option Addr) (c : Nat) (t : FT) (r : Rq) (vd va : Value) (w : World) (h : FNods w w.heap.size a c t) (hr : RqS w w.heap.size vd va r) (hv : (valT (tr t)).1 ≠ 0) :
    Calls Tryz.prog 12 #[.agg #[.slice a t.length c], rqV r vd va] w (ApplyPost t r w) := by
  have CV := Lib.hid (fun W (hb : Below w.heap.size w W) => validT_any a c (tr t) W (h.nods.up hb))
  have HP := Lib.hid (show ∀ e w', Below w.heap.size w w' → e = .returned (.tuple #[.agg #[.slice none 0 0], rpV Rp0 (.slice none 0 0) (.slice none 0 0), .agg #[.int .i64 (valT (tr t)).1, .int .i64 (valT (tr t)).2]]) → ApplyPost t r w e w' from fun e w' h1 h2 => ⟨h1, by rw [if_pos hv]; exact h2⟩)
  unfold faultV at CV
  simp only [tr_len] at CV
  have A0 := Lib.hid (A5.new w a t.length c r vd va)
  clear h hr
  generalize (valT (tr t)).1 = vc at *
  generalize (valT (tr t)).2 = vi at *
  have hcc : (vc != 0) = true := by simpa using hv
  clear hv
  generalize t.length = L at *
  unfold rqV
  go_enter Tryz.func12, Tryz.ntmps12
  go_upto_region 1 with fail
  generalize (((((w.alloc (.cells #[.slice a L c] 24)).alloc (.cells #[.int .i64 r.k, .int .i64 r.u, .string r.p, .string r.t, .int .i64 r.off, .int .i64 r.sz, vd, va, .string r.a.n, .string r.a.v] 30)).alloc (.cells #[.slice none 0 0] 24)).alloc (.cells #[.int .i64 0, .slice none 0 0, .slice none 0 0, .int .i64 0, .int .i64 0, .int .i64 0, .int .i64 0, .int .i64 0, .int .i64 0] 35)).alloc (.cells #[.int .i64 0, .int .i64 0] 37)) = w5 at *
  generalize w.heap.size + 1 + 1 + 1 + 1 = n4 at *
  generalize w.heap.size + 1 + 1 + 1 = n3 at *
  generalize w.heap.size + 1 + 1 = n2 at *
  generalize w.heap.size + 1 = n1 at *
  have t0 := A0.out.t.c 0 _ rfl
  go_wp2_with fail
  refine (CV.out _ A0.out.b).mono ?_
  rintro e w6 ⟨rfl, b6⟩
  have A6 := Lib.hid (A0.out.up b6)
  have HF := Lib.hid (FBox.new w6 vc vi 37)
  have A7 := Lib.hid (A6.out.up ((Below.refl w6.heap.size w6).alloc (Nat.le_refl _) (.cells #[.int .i64 vc, .int .i64 vi] 37)))
  clear b6 t0
  have hC := A6.out.f.lt
  go_upto_region 3 with fail
  obtain ⟨fl, f0, f1, _, _⟩ := HF.out
  generalize w6.alloc (.cells #[.int .i64 vc, .int .i64 vi] 37) = w7 at *
  generalize w6.heap.size = C at *
  have S := Lib.hid (A7.out.store (.slice none 0 0) (.int .i64 0) (.slice none 0 0) (.slice none 0 0) (.int .i64 0) (.int .i64 0) (.int .i64 0) (.int .i64 0) (.int .i64 0) (.int .i64 0) (.int .i64 vc) (.int .i64 vi))
  have q2 := A7.out.o.c 0 _ rfl
  have qf2 := A7.out.o.f 0 (by decide)
  have l2 := A7.out.o.lt
  have p0 := A7.out.p.c 0 _ rfl
  have pf0 := A7.out.p.f 0 (by decide)
  have p1 := A7.out.p.c 1 _ rfl
  have pf1 := A7.out.p.f 1 (by decide)
  have p2 := A7.out.p.c 2 _ rfl
  have pf2 := A7.out.p.f 2 (by decide)
  have p3 := A7.out.p.c 3 _ rfl
  have pf3 := A7.out.p.f 3 (by decide)
  have p4 := A7.out.p.c 4 _ rfl
  have pf4 := A7.out.p.f 4 (by decide)
  have p5 := A7.out.p.c 5 _ rfl
  have pf5 := A7.out.p.f 5 (by decide)
  have p6 := A7.out.p.c 6 _ rfl
  have pf6 := A7.out.p.f 6 (by decide)
  have p7 := A7.out.p.c 7 _ rfl
  have pf7 := A7.out.p.f 7 (by decide)
  have p8 := A7.out.p.c 8 _ rfl
  have pf8 := A7.out.p.f 8 (by decide)
  have l3 := A7.out.p.lt
  have s0 := A7.out.f.c 0 _ rfl
  have sf0 := A7.out.f.f 0 (by decide)
  have s1 := A7.out.f.c 1 _ rfl
  have sf1 := A7.out.f.f 1 (by decide)
  have l4 := A7.out.f.lt
  have k1 := A7.out.l1
  have k2 := A7.out.l2
  have k3 := A7.out.l3
  have k4 := A7.out.l4
  have c2' : C ≠ n2 := by omega
  have c3' : C ≠ n3 := by omega
  have c4' : C ≠ n4 := by omega
  have d23 : n2 ≠ n3 := by omega
  have d24 : n2 ≠ n4 := by omega
  have d34 : n3 ≠ n4 := by omega
  go_region
  all_goals
    go_wp2
    generalize hw : World.setCell _ ⟨n4, 1, none⟩ _ = wz at *
    obtain ⟨SB, SO, SP, SF⟩ := S.out
    have y2 := SO.c 0 _ rfl
    have x0 := SP.c 0 _ rfl
    have x1 := SP.c 1 _ rfl
    have x2 := SP.c 2 _ rfl
    have x3 := SP.c 3 _ rfl
    have x4 := SP.c 4 _ rfl
    have x5 := SP.c 5 _ rfl
    have x6 := SP.c 6 _ rfl
    have x7 := SP.c 7 _ rfl
    have x8 := SP.c 8 _ rfl
    have z0 := SF.c 0 _ rfl
    have z1 := SF.c 1 _ rfl
    exact bodyPost_ret (v := .tuple #[.agg #[.slice none 0 0], rpV Rp0 (.slice none 0 0) (.slice none 0 0), .agg #[.int .i64 vc, .int .i64 vi]]) (by simp [results, Tryz.results12, rpV, go_sem, y2, x0, x1, x2, x3, x4, x5, x6, x7, x8, z0, z1]) rfl (HP.out _ _ SB.drew rfl)

end Go.Proofs.YtmbbmmnpkdfecaaGreatDoor

/- Apply: the fault of a request; a request that is refused; a request that is carried out. Conditions: the tree and the request lie in memory as they read. -/

set_option linter.all false
namespace Go.Proofs.YtmbbmmnpkdfecaaGreatDoor
open Go.RowKit

abbrev zeroX : List Value := [.slice none 0 0, .int .i64 0, .int .i64 0, .string ⟨#[]⟩, .string ⟨#[]⟩, .int .i64 0, .int .i64 0, .slice none 0 0, .slice none 0 0, .string ⟨#[]⟩, .string ⟨#[]⟩]
/-- An execution in a new block. -/
theorem XO.fresh {w9 z : World} {base g cap : Nat} {sl : Nat → Sl} {t : FT} {r : Rq} {vd va : Value} (ho : OT z base g cap sl t) (hr : RqS z base vd va r) (h40 : t.length ≤ 40) (hbz : Below w9.heap.size w9 z) :
    XO (z.alloc (.cells #[.slice (some ⟨g, 0, none⟩) t.length cap, .int .i64 r.k, .int .i64 r.u, .string r.p, .string r.t, .int .i64 r.off, .int .i64 r.sz, vd, va, .string r.a.n, .string r.a.v] 78)) base z.heap.size g cap sl t r vd va ∧ Below w9.heap.size w9 (z.alloc (.cells #[.slice (some ⟨g, 0, none⟩) t.length cap, .int .i64 r.k, .int .i64 r.u, .string r.p, .string r.t, .int .i64 r.off, .int .i64 r.sz, vd, va, .string r.a.n, .string r.a.v] 78)) := by
  have hb : base ≤ z.heap.size := by have := ho.lt; omega
  have hB : Below z.heap.size z (z.alloc (.cells (xL t.length g cap r vd va).toArray 78)) := (Below.refl _ _).alloc (Nat.le_refl _) _
  exact ⟨⟨ho.up hB, ⟨rfl, .inr ⟨_, 1, _, rfl, hb, heap_alloc_new z _, by omega, by simp [maxLen], rfl, rfl⟩⟩, hr.keep (fun b o h => hB.cell (p := ⟨b, o, none⟩) (Nat.lt_of_lt_of_le h hb)), h40⟩, hbz.alloc hbz.size _⟩
/-- An execution stored into a block that was laid before its tree. -/
theorem XO.late {z : World} {base B X g cap : Nat} {sl : Nat → Sl} {t : FT} {r : Rq} {vd va : Value} (ho : OT z B g cap sl t) (hX : X < B) (hbX : base ≤ X) (hz : z.heap[X]? = some (.cells zeroX.toArray 78 (0, 0))) (hr : RqS z base vd va r) (h40 : t.length ≤ 40) :
    XO (((((((((((z.setCell ⟨X, 0, none⟩ (.slice (some ⟨g, 0, none⟩) t.length cap)).setCell ⟨X, 1, none⟩ (.int .i64 r.k)).setCell ⟨X, 2, none⟩ (.int .i64 r.u)).setCell ⟨X, 3, none⟩ (.string r.p)).setCell ⟨X, 4, none⟩ (.string r.t)).setCell ⟨X, 5, none⟩ (.int .i64 r.off)).setCell ⟨X, 6, none⟩ (.int .i64 r.sz)).setCell ⟨X, 7, none⟩ vd).setCell ⟨X, 8, none⟩ va).setCell ⟨X, 9, none⟩ (.string r.a.n)).setCell ⟨X, 10, none⟩ (.string r.a.v)) base X g cap sl t r vd va := by
  have h0 : z.ownsRow base 78 11 (.slice (some ⟨X, 0, none⟩) 1 1) 1 zeroX := ⟨rfl, .inr ⟨_, 1, _, rfl, hbX, hz, by omega, by simp [maxLen], rfl, rfl⟩⟩
  have h1 := (((((((((((h0.stored 0 (.slice (some ⟨g, 0, none⟩) t.length cap)).1.stored 1 (.int .i64 r.k)).1.stored 2 (.int .i64 r.u)).1.stored 3 (.string r.p)).1.stored 4 (.string r.t)).1.stored 5 (.int .i64 r.off)).1.stored 6 (.int .i64 r.sz)).1.stored 7 vd).1.stored 8 va).1.stored 9 (.string r.a.n)).1.stored 10 (.string r.a.v)).1
  have o1 := ((((((((((ho.low (p := ⟨X, 0, none⟩) hX (.slice (some ⟨g, 0, none⟩) t.length cap)).low (p := ⟨X, 1, none⟩) hX (.int .i64 r.k)).low (p := ⟨X, 2, none⟩) hX (.int .i64 r.u)).low (p := ⟨X, 3, none⟩) hX (.string r.p)).low (p := ⟨X, 4, none⟩) hX (.string r.t)).low (p := ⟨X, 5, none⟩) hX (.int .i64 r.off)).low (p := ⟨X, 6, none⟩) hX (.int .i64 r.sz)).low (p := ⟨X, 7, none⟩) hX vd).low (p := ⟨X, 8, none⟩) hX va).low (p := ⟨X, 9, none⟩) hX (.string r.a.n)).low (p := ⟨X, 10, none⟩) hX (.string r.a.v)
  have f : ∀ {Z : World} (j : Nat) (u : Value), RqS Z base vd va r → RqS (Z.setCell ⟨X, j, none⟩ u) base vd va r := fun {Z} j u h => h.keep (fun b o hb => World.cell?_setCell_other Z _ _ u (fun e => by have := congrArg Addr.block e; simp at this; omega))
  exact ⟨o1.lower (by omega), h1, f _ _ (f _ _ (f _ _ (f _ _ (f _ _ (f _ _ (f _ _ (f _ _ (f _ _ (f _ _ (f _ _ hr)))))))))), h40⟩
theorem lt_alloc_drew (w : World) (o : Obj) : w.heap.size < ((w.alloc o).drew).heap.size := by simp [World.drew]
theorem below11 {w z : World} {B X : Nat} (h : Below B w z) (hX : B ≤ X) (u0 u1 u2 u3 u4 u5 u6 u7 u8 u9 u10 : Value) :
    Below B w (((((((((((z.setCell ⟨X, 0, none⟩ u0).setCell ⟨X, 1, none⟩ u1).setCell ⟨X, 2, none⟩ u2).setCell ⟨X, 3, none⟩ u3).setCell ⟨X, 4, none⟩ u4).setCell ⟨X, 5, none⟩ u5).setCell ⟨X, 6, none⟩ u6).setCell ⟨X, 7, none⟩ u7).setCell ⟨X, 8, none⟩ u8).setCell ⟨X, 9, none⟩ u9).setCell ⟨X, 10, none⟩ u10) :=
  ((((((((((h.setCell (p := ⟨X, 0, none⟩) hX u0).setCell (p := ⟨X, 1, none⟩) hX u1).setCell (p := ⟨X, 2, none⟩) hX u2).setCell (p := ⟨X, 3, none⟩) hX u3).setCell (p := ⟨X, 4, none⟩) hX u4).setCell (p := ⟨X, 5, none⟩) hX u5).setCell (p := ⟨X, 6, none⟩) hX u6).setCell (p := ⟨X, 7, none⟩) hX u7).setCell (p := ⟨X, 8, none⟩) hX u8).setCell (p := ⟨X, 9, none⟩) hX u9).setCell (p := ⟨X, 10, none⟩) hX u10

set_option maxRecDepth 100000 in
set_option maxHeartbeats 3200000 in
theorem applyReq_any (a : Option Addr) (c : Nat) (t : FT) (r : Rq) (vd va : Value) (w : World) (gm : GM w) (h : FNods w w.heap.size a c t) (hr : RqS w w.heap.size vd va r) (hv : (valT (tr t)).1 = 0) (hq : rqC r ≠ 0) :
    Calls Tryz.prog 12 #[.agg #[.slice a t.length c], rqV r vd va] w (ApplyPost t r w) := by
  have CV := Lib.hid (fun W (hb : Below w.heap.size w W) => validT_any a c (tr t) W (h.nods.up hb))
  have CQ := Lib.hid (fun W (hb : Below w.heap.size w W) => validateRequest_any r vd va W (gm.below hb) (hr.up hb))
  have HP := Lib.hid (show ∀ e w', Below w.heap.size w w' → e = .returned (.tuple #[.agg #[.slice none 0 0], rpV Rp0 (.slice none 0 0) (.slice none 0 0), .agg #[.int .i64 (rqC r), .int .i64 (-1)]]) → ApplyPost t r w e w' from fun e w' h1 h2 => ⟨h1, by rw [if_neg (by simpa using hv), if_pos hq]; exact h2⟩)
  unfold faultV at CV CQ
  simp only [tr_len] at CV
  rw [valT_zero hv] at CV
  have A0 := Lib.hid (A5.new w a t.length c r vd va)
  clear h hr gm hv
  generalize rqC r = vc at *
  have hcc : (vc != 0) = true := by simpa using hq
  clear hq
  generalize t.length = L at *
  unfold rqV at *
  go_enter Tryz.func12, Tryz.ntmps12
  go_upto_region 1 with fail
  generalize (((((w.alloc (.cells #[.slice a L c] 24)).alloc (.cells #[.int .i64 r.k, .int .i64 r.u, .string r.p, .string r.t, .int .i64 r.off, .int .i64 r.sz, vd, va, .string r.a.n, .string r.a.v] 30)).alloc (.cells #[.slice none 0 0] 24)).alloc (.cells #[.int .i64 0, .slice none 0 0, .slice none 0 0, .int .i64 0, .int .i64 0, .int .i64 0, .int .i64 0, .int .i64 0, .int .i64 0] 35)).alloc (.cells #[.int .i64 0, .int .i64 0] 37)) = w5 at *
  generalize w.heap.size + 1 + 1 + 1 + 1 = n4 at *
  generalize w.heap.size + 1 + 1 + 1 = n3 at *
  generalize w.heap.size + 1 + 1 = n2 at *
  generalize w.heap.size + 1 = n1 at *
  have t0 := A0.out.t.c 0 _ rfl
  go_wp2_with fail
  refine (CV.out _ A0.out.b).mono ?_
  rintro e w6 ⟨rfl, b6⟩
  have A7 := Lib.hid ((A0.out.up b6).up ((Below.refl w6.heap.size w6).alloc (Nat.le_refl _) (.cells #[.int .i64 0, .int .i64 0] 37)))
  clear b6 t0
  have u0 := A7.out.r.c 0 _ rfl
  have u1 := A7.out.r.c 1 _ rfl
  have u2 := A7.out.r.c 2 _ rfl
  have u3 := A7.out.r.c 3 _ rfl
  have u4 := A7.out.r.c 4 _ rfl
  have u5 := A7.out.r.c 5 _ rfl
  have u6 := A7.out.r.c 6 _ rfl
  have u7 := A7.out.r.c 7 _ rfl
  have u8 := A7.out.r.c 8 _ rfl
  have u9 := A7.out.r.c 9 _ rfl
  go_upto_region 4 with fail
  generalize w6.alloc (.cells #[.int .i64 0, .int .i64 0] 37) = w7 at *
  go_wp2_with fail
  refine (CQ.out _ A7.out.b).mono ?_
  rintro e w8 ⟨rfl, b8⟩
  have A8 := Lib.hid (A7.out.up b8)
  clear b8 u0 u1 u2 u3 u4 u5 u6 u7 u8 u9
  have HF := Lib.hid (FBox.new w8 vc 0 37)
  have A9 := Lib.hid (A8.out.up ((Below.refl w8.heap.size w8).alloc (Nat.le_refl _) (.cells #[.int .i64 vc, .int .i64 0] 37)))
  have hC := A8.out.f.lt
  go_upto_region 6 with fail
  obtain ⟨fl, f0, f1, _, _⟩ := HF.out
  generalize w8.alloc (.cells #[.int .i64 vc, .int .i64 0] 37) = w9 at *
  generalize w8.heap.size = C at *
  have S := Lib.hid (A9.out.store (.slice none 0 0) (.int .i64 0) (.slice none 0 0) (.slice none 0 0) (.int .i64 0) (.int .i64 0) (.int .i64 0) (.int .i64 0) (.int .i64 0) (.int .i64 0) (.int .i64 vc) (.int .i64 (-1)))
  have q2 := A9.out.o.c 0 _ rfl
  have qf2 := A9.out.o.f 0 (by decide)
  have l2 := A9.out.o.lt
  have p0 := A9.out.p.c 0 _ rfl
  have pf0 := A9.out.p.f 0 (by decide)
  have p1 := A9.out.p.c 1 _ rfl
  have pf1 := A9.out.p.f 1 (by decide)
  have p2 := A9.out.p.c 2 _ rfl
  have pf2 := A9.out.p.f 2 (by decide)
  have p3 := A9.out.p.c 3 _ rfl
  have pf3 := A9.out.p.f 3 (by decide)
  have p4 := A9.out.p.c 4 _ rfl
  have pf4 := A9.out.p.f 4 (by decide)
  have p5 := A9.out.p.c 5 _ rfl
  have pf5 := A9.out.p.f 5 (by decide)
  have p6 := A9.out.p.c 6 _ rfl
  have pf6 := A9.out.p.f 6 (by decide)
  have p7 := A9.out.p.c 7 _ rfl
  have pf7 := A9.out.p.f 7 (by decide)
  have p8 := A9.out.p.c 8 _ rfl
  have pf8 := A9.out.p.f 8 (by decide)
  have l3 := A9.out.p.lt
  have s0 := A9.out.f.c 0 _ rfl
  have sf0 := A9.out.f.f 0 (by decide)
  have s1 := A9.out.f.c 1 _ rfl
  have sf1 := A9.out.f.f 1 (by decide)
  have l4 := A9.out.f.lt
  have k1 := A9.out.l1
  have k2 := A9.out.l2
  have k3 := A9.out.l3
  have k4 := A9.out.l4
  have d23 : n2 ≠ n3 := Nat.ne_of_lt k3
  have d24 : n2 ≠ n4 := Nat.ne_of_lt (Nat.lt_trans k3 k4)
  have d34 : n3 ≠ n4 := Nat.ne_of_lt k4
  have c2' : C ≠ n2 := by omega
  have c3' : C ≠ n3 := by omega
  have c4' : C ≠ n4 := by omega
  go_region
  all_goals
    go_wp2
    generalize hw : World.setCell _ ⟨n4, 1, none⟩ _ = wz at *
    obtain ⟨SB, SO, SP, SF⟩ := S.out
    have y2 := SO.c 0 _ rfl
    have x0 := SP.c 0 _ rfl
    have x1 := SP.c 1 _ rfl
    have x2 := SP.c 2 _ rfl
    have x3 := SP.c 3 _ rfl
    have x4 := SP.c 4 _ rfl
    have x5 := SP.c 5 _ rfl
    have x6 := SP.c 6 _ rfl
    have x7 := SP.c 7 _ rfl
    have x8 := SP.c 8 _ rfl
    have z0 := SF.c 0 _ rfl
    have z1 := SF.c 1 _ rfl
    exact bodyPost_ret (v := .tuple #[.agg #[.slice none 0 0], rpV Rp0 (.slice none 0 0) (.slice none 0 0), .agg #[.int .i64 vc, .int .i64 (-1)]]) (by simp [results, Tryz.results12, rpV, go_sem, y2, x0, x1, x2, x3, x4, x5, x6, x7, x8, z0, z1]) rfl (HP.out _ _ SB.drew rfl)

end Go.Proofs.YtmbbmmnpkdfecaaGreatDoor
