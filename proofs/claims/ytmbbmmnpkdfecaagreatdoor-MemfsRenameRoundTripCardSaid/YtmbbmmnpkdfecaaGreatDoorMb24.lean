/- Package memfs and what it calls, at this seat's translation.
   Condition: as each theorem states; this text: MfReply8. -/
import Derived.Test.YtmbbmmnpkdfecaaGreatDoorMb23
import Derived.Test.YtmbbmmnpkdfecaaGreatDoorMb4

set_option linter.all false

/- reply: what a request answers, for OpRemove; the words of a reply. Conditions: the execution lies in memory as it reads; the number lies in the tree. -/

set_option linter.all false
namespace Go.Proofs.YtmbbmmnpkdfecaaGreatDoor
open Go.RowKit

/-- A reply as a value: its eleven cells... -/
def rpV (p : Rp) (vd vn : Value) : Value := .agg #[.int .i64 p.c, vd, vn, .int .i64 p.s.i, .int .i64 p.s.k, .int .i64 p.s.o, .int .i64 p.s.z, .int .i64 p.s.l, .int .i64 p.s.v]
/-- What lies in memory of a reply, in blocks from lo on. -/
structure RpS (w : World) (lo B : Nat) (vd vn : Value) (p : Rp) : Prop where
  d : Byts w B vd p.d
  ns : Strs w B vn p.ns
  ld : ∀ q, vd.ownBlock = some q → lo ≤ q
  ln : ∀ q, vn.ownBlock = some q → lo ≤ q
theorem RpS.up {w w' : World} {lo : Nat} {vd vn : Value} {p : Rp} (h : RpS w lo w.heap.size vd vn p) (hb : Below w.heap.size w w') : RpS w' lo w'.heap.size vd vn p := ⟨h.d.up hb, h.ns.up hb, h.ld, h.ln⟩
theorem RpS.lower {w : World} {lo lo' B : Nat} {vd vn : Value} {p : Rp} (h : RpS w lo B vd vn p) (hl : lo' ≤ lo) : RpS w lo' B vd vn p := ⟨h.d, h.ns, fun q e => Nat.le_trans hl (h.ld q e), fun q e => Nat.le_trans hl (h.ln q e)⟩
theorem Byts.set2 {w : World} {B : Nat} {v : Value} {d : List UInt8} (h : Byts w B v d) {p : Addr} (hp : ∀ g, v.ownBlock = some g → g ≠ p.block) (u : Value) : Byts (w.setCell p u) B v d := by
  obtain ⟨a, c, rfl, hc, hl, hx⟩ := h
  refine ⟨a, c, rfl, hc, hl, fun h0 => ?_⟩
  obtain ⟨b, o, rfl, hb, hj⟩ := hx h0
  exact ⟨b, o, rfl, hb, fun j hj2 => (World.cell?_setCell_other w p _ u (fun e => hp b rfl (congrArg Addr.block e).symm)).trans (hj j hj2)⟩
theorem RpS.low {w : World} {lo B : Nat} {vd vn : Value} {p : Rp} (h : RpS w lo B vd vn p) {a : Addr} (ha : a.block < lo) (u : Value) : RpS (w.setCell a u) lo B vd vn p :=
  ⟨h.d.set2 (fun g e => by have := h.ld g e; omega) u, h.ns.set2 (fun g e => by have := h.ln g e; omega) u, h.ld, h.ln⟩
theorem RpS.none_ (w : World) (lo B : Nat) (c : Int) (s : St) : RpS w lo B (.slice none 0 0) (.slice none 0 0) ⟨c, [], [], s⟩ := ⟨Byts.none_ _ _, Strs.none_ _ _, fun _ e => (by cases e), fun _ e => (by cases e)⟩
def ReplyPost (p : Rp) (w : World) (e : Ending) (w' : World) : Prop := ∃ vd vn, e = .returned (rpV p vd vn) ∧ RpS w' w.heap.size w'.heap.size vd vn p ∧ Below w.heap.size w w'
/-- The cells of a request in a block of their own. -/
theorem XR.rqc {w : World} {X g cap : Nat} {t : FT} {r : Rq} {vd va : Value} (h : XR w X g cap t r vd va) :
    w.cell? ⟨X, 1, none⟩ = some (.int .i64 r.k) ∧ w.cell? ⟨X, 2, none⟩ = some (.int .i64 r.u) ∧ w.cell? ⟨X, 3, none⟩ = some (.string r.p) ∧ w.cell? ⟨X, 4, none⟩ = some (.string r.t) ∧ w.cell? ⟨X, 5, none⟩ = some (.int .i64 r.off) ∧ w.cell? ⟨X, 6, none⟩ = some (.int .i64 r.sz)
      ∧ w.cell? ⟨X, 7, none⟩ = some vd ∧ w.cell? ⟨X, 8, none⟩ = some va ∧ w.cell? ⟨X, 9, none⟩ = some (.string r.a.n) ∧ w.cell? ⟨X, 10, none⟩ = some (.string r.a.v) :=
  ⟨h.b.c 1 _ rfl, h.b.c 2 _ rfl, h.b.c 3 _ rfl, h.b.c 4 _ rfl, h.b.c 5 _ rfl, h.b.c 6 _ rfl, h.b.c 7 _ rfl, h.b.c 8 _ rfl, h.b.c 9 _ rfl, h.b.c 10 _ rfl⟩
abbrev zeroRp : List Value := [.int .i64 0, .slice none 0 0, .slice none 0 0, .int .i64 0, .int .i64 0, .int .i64 0, .int .i64 0, .int .i64 0, .int .i64 0]

/-- Two new blocks. -/
theorem two_blks (w : World) (l m : List Value) (T U : TypeId) : Below w.heap.size w ((w.alloc (.cells l.toArray T)).alloc (.cells m.toArray U)).drew ∧ Blk ((w.alloc (.cells l.toArray T)).alloc (.cells m.toArray U)).drew w.heap.size l ∧ Blk ((w.alloc (.cells l.toArray T)).alloc (.cells m.toArray U)).drew (w.heap.size + 1) m :=
  ⟨(((Below.refl _ _).alloc (Nat.le_refl _) _).alloc (by simp) _).drew, ((Blk.new w l T).alloc _).up (Below.refl _ _).drew, ((Blk.new (w.alloc (.cells l.toArray T)) m U).at_ (by simp)).up (Below.refl _ _).drew⟩

/-- The nine cells of a reply stored. -/
theorem store9 {w0 w : World} {B n : Nat} {l : List Value} (h : Blk w n l) (hl : l.length = 9) (hb : Below B w0 w) (hn : B ≤ n) (b0 b1 b2 b3 b4 b5 b6 b7 b8 : Value) :
    Blk (((((((((w.setCell ⟨n, 0, none⟩ b0).setCell ⟨n, 1, none⟩ b1).setCell ⟨n, 2, none⟩ b2).setCell ⟨n, 3, none⟩ b3).setCell ⟨n, 4, none⟩ b4).setCell ⟨n, 5, none⟩ b5).setCell ⟨n, 6, none⟩ b6).setCell ⟨n, 7, none⟩ b7).setCell ⟨n, 8, none⟩ b8) n [b0, b1, b2, b3, b4, b5, b6, b7, b8]
      ∧ Below B w0 (((((((((w.setCell ⟨n, 0, none⟩ b0).setCell ⟨n, 1, none⟩ b1).setCell ⟨n, 2, none⟩ b2).setCell ⟨n, 3, none⟩ b3).setCell ⟨n, 4, none⟩ b4).setCell ⟨n, 5, none⟩ b5).setCell ⟨n, 6, none⟩ b6).setCell ⟨n, 7, none⟩ b7).setCell ⟨n, 8, none⟩ b8) := by
  match l, hl with
  | [a0, a1, a2, a3, a4, a5, a6, a7, a8], _ =>
    exact ⟨((((((((h.put 0 b0 (by simp)).put 1 b1 (by simp)).put 2 b2 (by simp)).put 3 b3 (by simp)).put 4 b4 (by simp)).put 5 b5 (by simp)).put 6 b6 (by simp)).put 7 b7 (by simp)).put 8 b8 (by simp),
      ((((((((hb.setCell (p := ⟨n, 0, none⟩) hn b0).setCell (p := ⟨n, 1, none⟩) hn b1).setCell (p := ⟨n, 2, none⟩) hn b2).setCell (p := ⟨n, 3, none⟩) hn b3).setCell (p := ⟨n, 4, none⟩) hn b4).setCell (p := ⟨n, 5, none⟩) hn b5).setCell (p := ⟨n, 6, none⟩) hn b6).setCell (p := ⟨n, 7, none⟩) hn b7).setCell (p := ⟨n, 8, none⟩) hn b8⟩

theorem RpS.low9 {z : World} {lo n : Nat} {vd vn : Value} {p : Rp} (h : RpS z lo z.heap.size vd vn p) (hn : n < lo) (b0 b1 b2 b3 b4 b5 b6 b7 b8 : Value) :
    RpS (((((((((z.setCell ⟨n, 0, none⟩ b0).setCell ⟨n, 1, none⟩ b1).setCell ⟨n, 2, none⟩ b2).setCell ⟨n, 3, none⟩ b3).setCell ⟨n, 4, none⟩ b4).setCell ⟨n, 5, none⟩ b5).setCell ⟨n, 6, none⟩ b6).setCell ⟨n, 7, none⟩ b7).setCell ⟨n, 8, none⟩ b8) lo (((((((((z.setCell ⟨n, 0, none⟩ b0).setCell ⟨n, 1, none⟩ b1).setCell ⟨n, 2, none⟩ b2).setCell ⟨n, 3, none⟩ b3).setCell ⟨n, 4, none⟩ b4).setCell ⟨n, 5, none⟩ b5).setCell ⟨n, 6, none⟩ b6).setCell ⟨n, 7, none⟩ b7).setCell ⟨n, 8, none⟩ b8).heap.size vd vn p := by
  have e : (((((((((z.setCell ⟨n, 0, none⟩ b0).setCell ⟨n, 1, none⟩ b1).setCell ⟨n, 2, none⟩ b2).setCell ⟨n, 3, none⟩ b3).setCell ⟨n, 4, none⟩ b4).setCell ⟨n, 5, none⟩ b5).setCell ⟨n, 6, none⟩ b6).setCell ⟨n, 7, none⟩ b7).setCell ⟨n, 8, none⟩ b8).heap.size = z.heap.size := by simp
  rw [e]
  exact ((((((((h.low (a := ⟨n, 0, none⟩) hn b0).low (a := ⟨n, 1, none⟩) hn b1).low (a := ⟨n, 2, none⟩) hn b2).low (a := ⟨n, 3, none⟩) hn b3).low (a := ⟨n, 4, none⟩) hn b4).low (a := ⟨n, 5, none⟩) hn b5).low (a := ⟨n, 6, none⟩) hn b6).low (a := ⟨n, 7, none⟩) hn b7).low (a := ⟨n, 8, none⟩) hn b8

set_option maxRecDepth 100000 in
set_option maxHeartbeats 3200000 in
theorem reply8_any (X g cap : Nat) (t : FT) (r : Rq) (vd va : Value) (n : Nat) (w : World) (h : XR w X g cap t r vd va) (hn : n < t.length) (hk : r.k = 8) :
    Calls Tryz.prog 35 #[.pointer (some ⟨X, 0, none⟩), .int .i64 (n : Int)] w (ReplyPost (replyF t r n) w) := by
  have HR := Lib.hid (show replyF t r n = Rp0 by unfold replyF; simp [hk])
  rw [HR.out]
  clear HR
  obtain ⟨hgl, ⟨se, sd, sa, sx⟩, hc, hs, _⟩ := h.one hn
  obtain ⟨ea, ec, rfl, _⟩ := hs.es
  obtain ⟨da, dc, rfl, _⟩ := hs.dl
  obtain ⟨aa, ac, rfl, _⟩ := hs.ac
  obtain ⟨xa, xc, rfl, _⟩ := hs.xs
  have c0 := hc.c0
  have c1 := hc.c1
  have c2 := hc.c2
  have c3 := hc.c3
  have c4 := hc.c4
  have c5 := hc.c5
  have c6 := hc.c6
  have c7 := hc.c7
  simp only at c2 c3 c4 c5
  have x0 := h.b.c 0 _ rfl
  obtain ⟨x1, x2, x3, x4, x5, x6, x7, x8, x9, x10⟩ := h.rqc
  obtain ⟨qa, qc, rfl, _⟩ := h.rq.d
  obtain ⟨pa, pc, rfl, _⟩ := h.rq.ac
  have xl := h.b.lt
  have nz : (n : Int) < (t.length : Int) := by omega
  have n0 : (0 : Int) ≤ (n : Int) := Int.natCast_nonneg _
  have h40 := h.len
  clear hc hs h
  generalize (ino t n).nod = nd at *
  generalize nd.es.length = l2 at *
  generalize nd.ac.length = l4 at *
  generalize nd.xs.length = l5 at *
  generalize t.length = L at *
  rw [hk] at x1
  have B0 := Lib.hid ((Below.refl w.heap.size w).alloc (Nat.le_refl _) (.cells #[.int .i64 0, .slice none 0 0, .slice none 0 0, .int .i64 0, .int .i64 0, .int .i64 0, .int .i64 0, .int .i64 0, .int .i64 0] 35))
  have K0 := Lib.hid (Blk.new w zeroRp 35)
  have K1 : Hid (Blk (w.alloc (.cells #[.int .i64 0, .slice none 0 0, .slice none 0 0, .int .i64 0, .int .i64 0, .int .i64 0, .int .i64 0, .int .i64 0, .int .i64 0] 35)) w.heap.size zeroRp) := K0
  clear K0
  go_enter Tryz.func35, Tryz.ntmps35
  go_upto_region 1 with fail
  generalize w.alloc (.cells #[.int .i64 0, .slice none 0 0, .slice none 0 0, .int .i64 0, .int .i64 0, .int .i64 0, .int .i64 0, .int .i64 0, .int .i64 0] 35) = w1 at *
  replace x0 := (B0.out.cell (p := ⟨X, 0, none⟩) xl).trans x0
  replace x1 := (B0.out.cell (p := ⟨X, 1, none⟩) xl).trans x1
  replace x2 := (B0.out.cell (p := ⟨X, 2, none⟩) xl).trans x2
  replace x3 := (B0.out.cell (p := ⟨X, 3, none⟩) xl).trans x3
  replace x4 := (B0.out.cell (p := ⟨X, 4, none⟩) xl).trans x4
  replace x5 := (B0.out.cell (p := ⟨X, 5, none⟩) xl).trans x5
  replace x6 := (B0.out.cell (p := ⟨X, 6, none⟩) xl).trans x6
  replace x7 := (B0.out.cell (p := ⟨X, 7, none⟩) xl).trans x7
  replace x8 := (B0.out.cell (p := ⟨X, 8, none⟩) xl).trans x8
  replace x9 := (B0.out.cell (p := ⟨X, 9, none⟩) xl).trans x9
  replace x10 := (B0.out.cell (p := ⟨X, 10, none⟩) xl).trans x10
  replace c0 := (B0.out.cell (p := ⟨g, n * 8, none⟩) hgl).trans c0
  replace c1 := (B0.out.cell (p := ⟨g, n * 8 + 1, none⟩) hgl).trans c1
  replace c2 := (B0.out.cell (p := ⟨g, n * 8 + 2, none⟩) hgl).trans c2
  replace c3 := (B0.out.cell (p := ⟨g, n * 8 + 3, none⟩) hgl).trans c3
  replace c4 := (B0.out.cell (p := ⟨g, n * 8 + 4, none⟩) hgl).trans c4
  replace c5 := (B0.out.cell (p := ⟨g, n * 8 + 5, none⟩) hgl).trans c5
  replace c6 := (B0.out.cell (p := ⟨g, n * 8 + 6, none⟩) hgl).trans c6
  replace c7 := (B0.out.cell (p := ⟨g, n * 8 + 7, none⟩) hgl).trans c7
  replace xl := Nat.lt_of_lt_of_le xl B0.out.size
  replace hgl := Nat.lt_of_lt_of_le hgl B0.out.size
  go_cut [5, 6] from 12 to 23 (fun s5 s6 wx => ∃ A C : Nat, s5 = .pointer (some ⟨A, 0, none⟩) ∧ s6 = .pointer (some ⟨C, 0, none⟩) ∧ Below w1.heap.size w1 wx ∧ w1.heap.size ≤ A ∧ w1.heap.size ≤ C ∧
    Blk wx A [.int .i64 nd.k, .int .i64 nd.o, .slice ea l2 ec, .slice da nd.dl dc, .slice aa l4 ac, .slice xa l5 xc, .int .i64 nd.q, .int .i64 nd.v] ∧ Blk wx C [.int .i64 8, .int .i64 r.u, .string r.p, .string r.t, .int .i64 r.off, .int .i64 r.sz, .slice qa r.d.length qc, .slice pa r.ac.length pc, .string r.a.n, .string r.a.v])
  case first =>
    go_region
    all_goals
      go_wp2_with fail
      go_meet
      first
      | exact ⟨_, _, rfl, rfl, (two_blks w1 [.int .i64 nd.k, .int .i64 nd.o, .slice ea l2 ec, .slice da nd.dl dc, .slice aa l4 ac, .slice xa l5 xc, .int .i64 nd.q, .int .i64 nd.v] [.int .i64 8, .int .i64 r.u, .string r.p, .string r.t, .int .i64 r.off, .int .i64 r.sz, .slice qa r.d.length qc, .slice pa r.ac.length pc, .string r.a.n, .string r.a.v] _ _).1, Nat.le_refl _, Nat.le_succ _, (two_blks w1 _ _ _ _).2.1, (two_blks w1 _ _ _ _).2.2⟩
      | exact ⟨_, _, rfl, rfl, (two_blks w1 [.int .i64 8, .int .i64 r.u, .string r.p, .string r.t, .int .i64 r.off, .int .i64 r.sz, .slice qa r.d.length qc, .slice pa r.ac.length pc, .string r.a.n, .string r.a.v] [.int .i64 nd.k, .int .i64 nd.o, .slice ea l2 ec, .slice da nd.dl dc, .slice aa l4 ac, .slice xa l5 xc, .int .i64 nd.q, .int .i64 nd.v] _ _).1, Nat.le_succ _, Nat.le_refl _, (two_blks w1 _ _ _ _).2.2, (two_blks w1 _ _ _ _).2.1⟩
  case rest =>
    obtain ⟨A, C, rfl, rfl, bx, hA, hC, kA, kC⟩ := hcut
    clear x0 x1 x2 x3 x4 x5 x6 x7 x8 x9 x10 c0 c1 c2 c3 c4 c5 c6 c7
    have BX := Lib.hid (B0.out.trans (bx.mono B0.out.size))
    have K2 := Lib.hid (K1.out.up bx)
    have k0 := kC.c 0 _ rfl
    have kl := kC.lt
    have z0 := K2.out.c 0 _ rfl
    have z1 := K2.out.c 1 _ rfl
    have z2 := K2.out.c 2 _ rfl
    have z3 := K2.out.c 3 _ rfl
    have z4 := K2.out.c 4 _ rfl
    have z5 := K2.out.c 5 _ rfl
    have z6 := K2.out.c 6 _ rfl
    have z7 := K2.out.c 7 _ rfl
    have z8 := K2.out.c 8 _ rfl
    have f0 := K2.out.f 0 (by decide)
    have f1 := K2.out.f 1 (by decide)
    have f2 := K2.out.f 2 (by decide)
    have f3 := K2.out.f 3 (by decide)
    have f4 := K2.out.f 4 (by decide)
    have f5 := K2.out.f 5 (by decide)
    have f6 := K2.out.f 6 (by decide)
    have f7 := K2.out.f 7 (by decide)
    have f8 := K2.out.f 8 (by decide)
    have zl := K2.out.lt
    clear bx kA kC
    go_wp2
    have S := Lib.hid (store9 K2.out rfl BX.out (Nat.le_refl _) (.int .i64 0) (.slice none 0 0) (.slice none 0 0) (.int .i64 0) (.int .i64 0) (.int .i64 0) (.int .i64 0) (.int .i64 0) (.int .i64 0))
    generalize hw : World.setCell _ ⟨w.heap.size, 8, none⟩ _ = wz at *
    have y0 := S.out.1.c 0 _ rfl
    have y1 := S.out.1.c 1 _ rfl
    have y2 := S.out.1.c 2 _ rfl
    have y3 := S.out.1.c 3 _ rfl
    have y4 := S.out.1.c 4 _ rfl
    have y5 := S.out.1.c 5 _ rfl
    have y6 := S.out.1.c 6 _ rfl
    have y7 := S.out.1.c 7 _ rfl
    have y8 := S.out.1.c 8 _ rfl
    exact bodyPost_ret (v := rpV Rp0 (.slice none 0 0) (.slice none 0 0)) (by simp [results, Tryz.results35, rpV, go_sem, y0, y1, y2, y3, y4, y5, y6, y7, y8]) rfl ⟨_, _, rfl, RpS.none_ _ _ _ _ _, S.out.2⟩

end Go.Proofs.YtmbbmmnpkdfecaaGreatDoor
