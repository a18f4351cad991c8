/- Package memfs and what it calls, at this seat's translation.
   Condition: as each theorem states; this text: MfReplyS. -/
import Derived.Test.YtmbbmmnpkdfecaaGreatDoorMb24

set_option linter.all false

/- reply for the kinds that answer with an inode's numbers. Conditions: the execution lies in memory as it reads; the number lies in the tree. -/

set_option linter.all false
namespace Go.Proofs.YtmbbmmnpkdfecaaGreatDoor
open Go.RowKit

theorem far1 {w : World} {n A j i : Nat} {v b : Value} (hne : A ≠ n) (h : w.cell? ⟨A, j, none⟩ = some v) : (w.setCell ⟨n, i, none⟩ b).cell? ⟨A, j, none⟩ = some v :=
  (World.cell?_setCell_other w ⟨n, i, none⟩ ⟨A, j, none⟩ b (fun e => hne (congrArg Addr.block e).symm)).trans h
theorem far9 {w : World} {n A j : Nat} {v : Value} (hne : A ≠ n) (h : w.cell? ⟨A, j, none⟩ = some v) (b0 b1 b2 b3 b4 b5 b6 b7 b8 : Value) :
    (((((((((w.setCell ⟨n, 0, none⟩ b0).setCell ⟨n, 1, none⟩ b1).setCell ⟨n, 2, none⟩ b2).setCell ⟨n, 3, none⟩ b3).setCell ⟨n, 4, none⟩ b4).setCell ⟨n, 5, none⟩ b5).setCell ⟨n, 6, none⟩ b6).setCell ⟨n, 7, none⟩ b7).setCell ⟨n, 8, none⟩ b8).cell? ⟨A, j, none⟩ = some v :=
  far1 hne (far1 hne (far1 hne (far1 hne (far1 hne (far1 hne (far1 hne (far1 hne (far1 hne h))))))))

set_option maxRecDepth 100000 in
set_option maxHeartbeats 3200000 in
theorem replyS_any (X g cap : Nat) (t : FT) (r : Rq) (vd va : Value) (n : Nat) (w : World) (h : XR w X g cap t r vd va) (hn : n < t.length) (h3 : r.k ≠ 3) (h6 : r.k ≠ 6) (h8 : r.k ≠ 8) :
    Calls Tryz.prog 35 #[.pointer (some ⟨X, 0, none⟩), .int .i64 (n : Int)] w (ReplyPost (replyF t r n) w) := by
  have HR := Lib.hid (show replyF t r n = ⟨0, [], [], ⟨(n : Int), (ino t n).nod.k, (ino t n).nod.o, ((ino t n).nod.dl : Int), (refs (tr t) n : Nat), (ino t n).nod.v⟩⟩ by unfold replyF; rw [if_neg h3, if_neg h6, if_neg h8]; rfl)
  have CL := Lib.hid (fun (Z : World) (hZ : Below w.heap.size w Z) => links_any X g cap t r vd va n Z (h.up hZ))
  have b3 : (r.k == 3) = false := by simpa using h3
  have b6 : (r.k == 6) = false := by simpa using h6
  have b8 : (r.k == 8) = false := by simpa using h8
  rw [HR.out]
  clear HR h3 h6 h8
  generalize refs (tr t) n = lk at *
  obtain ⟨hgl, ⟨se, sd, sa, sx⟩, hc, hs, _⟩ := h.one hn
  obtain ⟨ea, ec, rfl, _⟩ := hs.es
  obtain ⟨da, dc, rfl, _⟩ := hs.dl
  obtain ⟨aa, ac, rfl, _⟩ := hs.ac
  obtain ⟨xa, xc, rfl, _⟩ := hs.xs
  have c0 := hc.c0
  have c1 := hc.c1
  have c2 := hc.c2
  have c3 := hc.c3
  have c4 := hc.c4
  have c5 := hc.c5
  have c6 := hc.c6
  have c7 := hc.c7
  simp only at c2 c3 c4 c5
  have x0 := h.b.c 0 _ rfl
  obtain ⟨x1, x2, x3, x4, x5, x6, x7, x8, x9, x10⟩ := h.rqc
  obtain ⟨qa, qc, rfl, _⟩ := h.rq.d
  obtain ⟨pa, pc, rfl, _⟩ := h.rq.ac
  have xl := h.b.lt
  have nz : (n : Int) < (t.length : Int) := by omega
  have n0 : (0 : Int) ≤ (n : Int) := Int.natCast_nonneg _
  have h40 := h.len
  clear hc hs h
  generalize (ino t n).nod = nd at *
  generalize nd.es.length = l2 at *
  generalize nd.ac.length = l4 at *
  generalize nd.xs.length = l5 at *
  generalize t.length = L at *
  generalize r.k = kd at *
  have B0 := Lib.hid ((Below.refl w.heap.size w).alloc (Nat.le_refl _) (.cells #[.int .i64 0, .slice none 0 0, .slice none 0 0, .int .i64 0, .int .i64 0, .int .i64 0, .int .i64 0, .int .i64 0, .int .i64 0] 35))
  have K0 := Lib.hid (Blk.new w zeroRp 35)
  have K1 : Hid (Blk (w.alloc (.cells #[.int .i64 0, .slice none 0 0, .slice none 0 0, .int .i64 0, .int .i64 0, .int .i64 0, .int .i64 0, .int .i64 0, .int .i64 0] 35)) w.heap.size zeroRp) := K0
  clear K0
  go_enter Tryz.func35, Tryz.ntmps35
  go_upto_region 1 with fail
  generalize w.alloc (.cells #[.int .i64 0, .slice none 0 0, .slice none 0 0, .int .i64 0, .int .i64 0, .int .i64 0, .int .i64 0, .int .i64 0, .int .i64 0] 35) = w1 at *
  replace x0 := (B0.out.cell (p := ⟨X, 0, none⟩) xl).trans x0
  replace x1 := (B0.out.cell (p := ⟨X, 1, none⟩) xl).trans x1
  replace x2 := (B0.out.cell (p := ⟨X, 2, none⟩) xl).trans x2
  replace x3 := (B0.out.cell (p := ⟨X, 3, none⟩) xl).trans x3
  replace x4 := (B0.out.cell (p := ⟨X, 4, none⟩) xl).trans x4
  replace x5 := (B0.out.cell (p := ⟨X, 5, none⟩) xl).trans x5
  replace x6 := (B0.out.cell (p := ⟨X, 6, none⟩) xl).trans x6
  replace x7 := (B0.out.cell (p := ⟨X, 7, none⟩) xl).trans x7
  replace x8 := (B0.out.cell (p := ⟨X, 8, none⟩) xl).trans x8
  replace x9 := (B0.out.cell (p := ⟨X, 9, none⟩) xl).trans x9
  replace x10 := (B0.out.cell (p := ⟨X, 10, none⟩) xl).trans x10
  replace c0 := (B0.out.cell (p := ⟨g, n * 8, none⟩) hgl).trans c0
  replace c1 := (B0.out.cell (p := ⟨g, n * 8 + 1, none⟩) hgl).trans c1
  replace c2 := (B0.out.cell (p := ⟨g, n * 8 + 2, none⟩) hgl).trans c2
  replace c3 := (B0.out.cell (p := ⟨g, n * 8 + 3, none⟩) hgl).trans c3
  replace c4 := (B0.out.cell (p := ⟨g, n * 8 + 4, none⟩) hgl).trans c4
  replace c5 := (B0.out.cell (p := ⟨g, n * 8 + 5, none⟩) hgl).trans c5
  replace c6 := (B0.out.cell (p := ⟨g, n * 8 + 6, none⟩) hgl).trans c6
  replace c7 := (B0.out.cell (p := ⟨g, n * 8 + 7, none⟩) hgl).trans c7
  replace xl := Nat.lt_of_lt_of_le xl B0.out.size
  replace hgl := Nat.lt_of_lt_of_le hgl B0.out.size
  go_cut [5, 6] from 12 to 23 (fun s5 s6 wx => ∃ A C : Nat, s5 = .pointer (some ⟨A, 0, none⟩) ∧ s6 = .pointer (some ⟨C, 0, none⟩) ∧ Below w1.heap.size w1 wx ∧ w1.heap.size ≤ A ∧ w1.heap.size ≤ C ∧
    Blk wx A [.int .i64 nd.k, .int .i64 nd.o, .slice ea l2 ec, .slice da nd.dl dc, .slice aa l4 ac, .slice xa l5 xc, .int .i64 nd.q, .int .i64 nd.v] ∧ Blk wx C [.int .i64 kd, .int .i64 r.u, .string r.p, .string r.t, .int .i64 r.off, .int .i64 r.sz, .slice qa r.d.length qc, .slice pa r.ac.length pc, .string r.a.n, .string r.a.v])
  case first =>
    go_region
    all_goals
      go_wp2_with fail
      go_meet
      first
      | exact ⟨_, _, rfl, rfl, (two_blks w1 [.int .i64 nd.k, .int .i64 nd.o, .slice ea l2 ec, .slice da nd.dl dc, .slice aa l4 ac, .slice xa l5 xc, .int .i64 nd.q, .int .i64 nd.v] [.int .i64 kd, .int .i64 r.u, .string r.p, .string r.t, .int .i64 r.off, .int .i64 r.sz, .slice qa r.d.length qc, .slice pa r.ac.length pc, .string r.a.n, .string r.a.v] _ _).1, Nat.le_refl _, Nat.le_succ _, (two_blks w1 _ _ _ _).2.1, (two_blks w1 _ _ _ _).2.2⟩
      | exact ⟨_, _, rfl, rfl, (two_blks w1 [.int .i64 kd, .int .i64 r.u, .string r.p, .string r.t, .int .i64 r.off, .int .i64 r.sz, .slice qa r.d.length qc, .slice pa r.ac.length pc, .string r.a.n, .string r.a.v] [.int .i64 nd.k, .int .i64 nd.o, .slice ea l2 ec, .slice da nd.dl dc, .slice aa l4 ac, .slice xa l5 xc, .int .i64 nd.q, .int .i64 nd.v] _ _).1, Nat.le_succ _, Nat.le_refl _, (two_blks w1 _ _ _ _).2.2, (two_blks w1 _ _ _ _).2.1⟩
  case rest =>
    obtain ⟨A, C, rfl, rfl, bx, hA, hC, kA, kC⟩ := hcut
    clear x0 x1 x2 x3 x4 x5 x6 x7 x8 x9 x10 c0 c1 c2 c3 c4 c5 c6 c7
    have BX := Lib.hid (B0.out.trans (bx.mono B0.out.size))
    have K2 := Lib.hid (K1.out.up bx)
    have k0 := kC.c 0 _ rfl
    have kl := kC.lt
    have zl := K2.out.lt
    have d0 := kA.c 0 _ rfl
    have d1 := kA.c 1 _ rfl
    have d3 := kA.c 3 _ rfl
    have d7 := kA.c 7 _ rfl
    have dl := kA.lt
    have hne : A ≠ w.heap.size := by have := K1.out.lt; omega
    clear bx kA kC
    go_upto_region 16 with fail
    have m0 := World.new_ne wc ⟨A, 0, none⟩ d0
    have m1 := World.new_ne wc ⟨A, 1, none⟩ d1
    have m3 := World.new_ne wc ⟨A, 3, none⟩ d3
    have m7 := World.new_ne wc ⟨A, 7, none⟩ d7
    generalize hJ : w.heap.size = J at *
    have e0 : wc.drew.cell? ⟨A, 0, none⟩ = some (.int .i64 nd.k) := d0
    have e1 : wc.drew.cell? ⟨A, 1, none⟩ = some (.int .i64 nd.o) := d1
    have e3 : wc.drew.cell? ⟨A, 3, none⟩ = some (.slice da nd.dl dc) := d3
    have e7 : wc.drew.cell? ⟨A, 7, none⟩ = some (.int .i64 nd.v) := d7
    go_region_held3 (fun y => y.cell? ⟨A, 0, none⟩ = some (.int .i64 nd.k) ∧ y.cell? ⟨A, 1, none⟩ = some (.int .i64 nd.o) ∧ y.cell? ⟨A, 3, none⟩ = some (.slice da nd.dl dc) ∧ y.cell? ⟨A, 7, none⟩ = some (.int .i64 nd.v))
      (first | with_reducible exact ⟨e0, e1, e3, e7⟩ | with_reducible exact ⟨q0, q1, q3, q7⟩ | with_reducible exact ⟨far9 hne q0 _ _ _ _ _ _ _ _ _, far9 hne q1 _ _ _ _ _ _ _ _ _, far9 hne q3 _ _ _ _ _ _ _ _ _, far9 hne q7 _ _ _ _ _ _ _ _ _⟩)
      ((go_at_call 72; refine (CL.out _ (BX.out.drew)).mono ?_; rintro e z ⟨rfl, hb9⟩; have hbz := (Below.refl wc.heap.size wc).drew.trans hb9; have q0 := (hbz.cell (p := ⟨A, 0, none⟩) dl).trans d0; have q1 := (hbz.cell (p := ⟨A, 1, none⟩) dl).trans d1; have q3 := (hbz.cell (p := ⟨A, 3, none⟩) dl).trans d3; have q7 := (hbz.cell (p := ⟨A, 7, none⟩) dl).trans d7; have HBZ := Lib.hid hbz; have KZ := Lib.hid (K2.out.up hbz); clear hb9 hbz; have y0 := KZ.out.c 0 _ rfl; have y1 := KZ.out.c 1 _ rfl; have y2 := KZ.out.c 2 _ rfl; have y3 := KZ.out.c 3 _ rfl; have y4 := KZ.out.c 4 _ rfl; have y5 := KZ.out.c 5 _ rfl; have y6 := KZ.out.c 6 _ rfl; have y7 := KZ.out.c 7 _ rfl; have y8 := KZ.out.c 8 _ rfl; have g0 := KZ.out.f 0 (by decide); have g1 := KZ.out.f 1 (by decide); have g2 := KZ.out.f 2 (by decide); have g3 := KZ.out.f 3 (by decide); have g4 := KZ.out.f 4 (by decide); have g5 := KZ.out.f 5 (by decide); have g6 := KZ.out.f 6 (by decide); have g7 := KZ.out.f 7 (by decide); have g8 := KZ.out.f 8 (by decide)))
    all_goals
      have hsz : J ≤ wc.heap.size := hJ ▸ BX.out.size
      have HBJ := Lib.hid (show Below J w z from BX.out.trans (HBZ.out.mono hsz))
      have S := Lib.hid (store9 (n := J) KZ.out rfl HBJ.out (Nat.le_refl _) (.int .i64 0) (.slice none 0 0) (.slice none 0 0) (.int .i64 (n : Int)) (.int .i64 nd.k) (.int .i64 nd.o) (.int .i64 (nd.dl : Int)) (.int .i64 (lk : Int)) (.int .i64 nd.v))
      go_wp2
      generalize hw : World.setCell _ ⟨J, 8, none⟩ _ = wz at *
      clear y0 y1 y2 y3 y4 y5 y6 y7 y8
      have y0 := S.out.1.c 0 _ rfl
      have y1 := S.out.1.c 1 _ rfl
      have y2 := S.out.1.c 2 _ rfl
      have y3 := S.out.1.c 3 _ rfl
      have y4 := S.out.1.c 4 _ rfl
      have y5 := S.out.1.c 5 _ rfl
      have y6 := S.out.1.c 6 _ rfl
      have y7 := S.out.1.c 7 _ rfl
      have y8 := S.out.1.c 8 _ rfl
      have hB := S.out.2
      rw [← hJ] at hB
      exact bodyPost_ret (v := rpV ⟨0, [], [], ⟨(n : Int), nd.k, nd.o, (nd.dl : Int), (lk : Int), nd.v⟩⟩ (.slice none 0 0) (.slice none 0 0)) (by simp [results, Tryz.results35, rpV, go_sem, y0, y1, y2, y3, y4, y5, y6, y7, y8]) rfl ⟨_, _, rfl, RpS.none_ _ _ _ _ _, hB⟩

end Go.Proofs.YtmbbmmnpkdfecaaGreatDoor
