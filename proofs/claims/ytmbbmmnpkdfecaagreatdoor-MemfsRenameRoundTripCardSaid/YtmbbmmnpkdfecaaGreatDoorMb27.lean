/- Package memfs and what it calls, at this seat's translation.
   Condition: as each theorem states; this text: MfReply6. -/
import Derived.Test.YtmbbmmnpkdfecaaGreatDoorMb24

set_option linter.all false

/- reply to OpList: the names of a directory's entries. Conditions: the execution lies in memory as it reads; the number lies in the tree. -/

set_option linter.all false
namespace Go.Proofs.YtmbbmmnpkdfecaaGreatDoor
open Go.RowKit

theorem make_strs (n : Nat) (hn : n ≤ 1000) (w : World) : (Instr.makeSlice 31 (.int .i64 (n : Int)) (.int .i64 (n : Int))).run Tryz.prog w = .ok (.slice (some ⟨w.heap.size, 0, none⟩) n n) (w.alloc (.cells (madeCells #[.string ByteArray.empty] n) 9)) := by
  obtain ⟨i0, hi, hz0, hz1, hz2⟩ := info_parts info9
  have hr := run_make (P := Tryz.prog) w 31 9 i0 _ Tryz.underlying31 hi hz0 .i64 .i64 n n (by omega) (by omega) (by rw [hz2]; omega) (by omega)
  simp only [Int.toNat_natCast, hz1, Nat.mul_one] at hr
  exact hr
/-- What holds while the names are copied. -/
structure NInv (w wr : World) (J R m i : Nat) (es : List DE) : Prop where
  b : Below w.heap.size w wr
  k : Blk wr J zeroRp
  row : Row wr R m (fun j => .string (if j < i then (es.getD j D0).n else ByteArray.empty))
theorem NInv.step {w wr z : World} {J R m i : Nat} {es : List DE} (h : NInv w wr J R m i es) (hb : Below wr.heap.size wr z) : NInv w z J R m i es :=
  ⟨h.b.trans (hb.mono h.b.size), h.k.up hb, h.row.below hb h.row.lt⟩
theorem NInv.put {w wr : World} {J R m i : Nat} {es : List DE} (h : NInv w wr J R m i es) (hw : w.heap.size ≤ R) (hJ : J ≠ R) (hi : i < m) {x : ByteArray} (hx : (es.getD i D0).n = x) : NInv w (wr.setCell ⟨R, i, none⟩ (.string x)) J R m (i + 1) es := by
  refine ⟨h.b.setCell hw _, h.k.far hJ _, (h.row.put hi _).ext fun j hj => ?_⟩
  by_cases e : j = i
  · subst e; rw [if_pos rfl, if_pos (by omega), hx]
  · rw [if_neg e]
    by_cases e2 : j < i
    · rw [if_pos e2, if_pos (by omega)]
    · rw [if_neg e2, if_neg (by omega)]

set_option maxRecDepth 100000 in
set_option maxHeartbeats 3200000 in
theorem reply6_any (X g cap : Nat) (t : FT) (r : Rq) (vd va : Value) (n : Nat) (w : World) (h : XR w X g cap t r vd va) (hn : n < t.length) (hk : r.k = 6) :
    Calls Tryz.prog 35 #[.pointer (some ⟨X, 0, none⟩), .int .i64 (n : Int)] w (ReplyPost (replyF t r n) w) := by
  have HR := Lib.hid (show replyF t r n = ⟨0, [], (ino t n).nod.es.map (·.n), S0⟩ by unfold replyF; rw [if_neg (by omega), if_pos hk]; rfl)
  rw [HR.out]
  clear HR
  have hle : (ino t n).nod.es.length ≤ 1000 := (h.fit n hn).le
  obtain ⟨hgl, ⟨se, sd, sa, sx⟩, hc, hs, _⟩ := h.one hn
  obtain ⟨ea, ec, rfl, hec, hel, hef, hex⟩ := hs.es
  have HEX := Lib.hid hex
  have HEF := Lib.hid hef
  clear hex hef
  obtain ⟨da, dc, rfl, _⟩ := hs.dl
  obtain ⟨aa, ac, rfl, _⟩ := hs.ac
  obtain ⟨xa, xc, rfl, _⟩ := hs.xs
  have c0 := hc.c0
  have c1 := hc.c1
  have c2 := hc.c2
  have c3 := hc.c3
  have c4 := hc.c4
  have c5 := hc.c5
  have c6 := hc.c6
  have c7 := hc.c7
  simp only at c2 c3 c4 c5
  have x0 := h.b.c 0 _ rfl
  obtain ⟨x1, x2, x3, x4, x5, x6, x7, x8, x9, x10⟩ := h.rqc
  obtain ⟨qa, qc, rfl, _⟩ := h.rq.d
  obtain ⟨pa, pc, rfl, _⟩ := h.rq.ac
  have xl := h.b.lt
  have nz : (n : Int) < (t.length : Int) := by omega
  have n0 : (0 : Int) ≤ (n : Int) := Int.natCast_nonneg _
  have h40 := h.len
  clear hc hs h
  generalize (ino t n).nod = nd at *
  generalize hE : nd.es = es at *
  generalize hl2 : es.length = l2 at *
  generalize nd.ac.length = l4 at *
  generalize nd.xs.length = l5 at *
  generalize t.length = L at *
  rw [hk] at x1
  have B0 := Lib.hid ((Below.refl w.heap.size w).alloc (Nat.le_refl _) (.cells #[.int .i64 0, .slice none 0 0, .slice none 0 0, .int .i64 0, .int .i64 0, .int .i64 0, .int .i64 0, .int .i64 0, .int .i64 0] 35))
  have K0 := Lib.hid (Blk.new w zeroRp 35)
  have K1 : Hid (Blk (w.alloc (.cells #[.int .i64 0, .slice none 0 0, .slice none 0 0, .int .i64 0, .int .i64 0, .int .i64 0, .int .i64 0, .int .i64 0, .int .i64 0] 35)) w.heap.size zeroRp) := K0
  clear K0
  go_enter Tryz.func35, Tryz.ntmps35
  go_upto_region 1 with fail
  generalize w.alloc (.cells #[.int .i64 0, .slice none 0 0, .slice none 0 0, .int .i64 0, .int .i64 0, .int .i64 0, .int .i64 0, .int .i64 0, .int .i64 0] 35) = w1 at *
  replace x0 := (B0.out.cell (p := ⟨X, 0, none⟩) xl).trans x0
  replace x1 := (B0.out.cell (p := ⟨X, 1, none⟩) xl).trans x1
  replace x2 := (B0.out.cell (p := ⟨X, 2, none⟩) xl).trans x2
  replace x3 := (B0.out.cell (p := ⟨X, 3, none⟩) xl).trans x3
  replace x4 := (B0.out.cell (p := ⟨X, 4, none⟩) xl).trans x4
  replace x5 := (B0.out.cell (p := ⟨X, 5, none⟩) xl).trans x5
  replace x6 := (B0.out.cell (p := ⟨X, 6, none⟩) xl).trans x6
  replace x7 := (B0.out.cell (p := ⟨X, 7, none⟩) xl).trans x7
  replace x8 := (B0.out.cell (p := ⟨X, 8, none⟩) xl).trans x8
  replace x9 := (B0.out.cell (p := ⟨X, 9, none⟩) xl).trans x9
  replace x10 := (B0.out.cell (p := ⟨X, 10, none⟩) xl).trans x10
  replace c0 := (B0.out.cell (p := ⟨g, n * 8, none⟩) hgl).trans c0
  replace c1 := (B0.out.cell (p := ⟨g, n * 8 + 1, none⟩) hgl).trans c1
  replace c2 := (B0.out.cell (p := ⟨g, n * 8 + 2, none⟩) hgl).trans c2
  replace c3 := (B0.out.cell (p := ⟨g, n * 8 + 3, none⟩) hgl).trans c3
  replace c4 := (B0.out.cell (p := ⟨g, n * 8 + 4, none⟩) hgl).trans c4
  replace c5 := (B0.out.cell (p := ⟨g, n * 8 + 5, none⟩) hgl).trans c5
  replace c6 := (B0.out.cell (p := ⟨g, n * 8 + 6, none⟩) hgl).trans c6
  replace c7 := (B0.out.cell (p := ⟨g, n * 8 + 7, none⟩) hgl).trans c7
  replace xl := Nat.lt_of_lt_of_le xl B0.out.size
  replace hgl := Nat.lt_of_lt_of_le hgl B0.out.size
  go_cut [5, 6] from 12 to 23 (fun s5 s6 wx => ∃ A C : Nat, s5 = .pointer (some ⟨A, 0, none⟩) ∧ s6 = .pointer (some ⟨C, 0, none⟩) ∧ Below w1.heap.size w1 wx ∧ w1.heap.size ≤ A ∧ w1.heap.size ≤ C ∧
    Blk wx A [.int .i64 nd.k, .int .i64 nd.o, .slice ea l2 ec, .slice da nd.dl dc, .slice aa l4 ac, .slice xa l5 xc, .int .i64 nd.q, .int .i64 nd.v] ∧ Blk wx C [.int .i64 6, .int .i64 r.u, .string r.p, .string r.t, .int .i64 r.off, .int .i64 r.sz, .slice qa r.d.length qc, .slice pa r.ac.length pc, .string r.a.n, .string r.a.v])
  case first =>
    go_region
    all_goals
      go_wp2_with fail
      go_meet
      first
      | exact ⟨_, _, rfl, rfl, (two_blks w1 [.int .i64 nd.k, .int .i64 nd.o, .slice ea l2 ec, .slice da nd.dl dc, .slice aa l4 ac, .slice xa l5 xc, .int .i64 nd.q, .int .i64 nd.v] [.int .i64 6, .int .i64 r.u, .string r.p, .string r.t, .int .i64 r.off, .int .i64 r.sz, .slice qa r.d.length qc, .slice pa r.ac.length pc, .string r.a.n, .string r.a.v] _ _).1, Nat.le_refl _, Nat.le_succ _, (two_blks w1 _ _ _ _).2.1, (two_blks w1 _ _ _ _).2.2⟩
      | exact ⟨_, _, rfl, rfl, (two_blks w1 [.int .i64 6, .int .i64 r.u, .string r.p, .string r.t, .int .i64 r.off, .int .i64 r.sz, .slice qa r.d.length qc, .slice pa r.ac.length pc, .string r.a.n, .string r.a.v] [.int .i64 nd.k, .int .i64 nd.o, .slice ea l2 ec, .slice da nd.dl dc, .slice aa l4 ac, .slice xa l5 xc, .int .i64 nd.q, .int .i64 nd.v] _ _).1, Nat.le_succ _, Nat.le_refl _, (two_blks w1 _ _ _ _).2.2, (two_blks w1 _ _ _ _).2.1⟩
  case rest =>
    obtain ⟨A, C, rfl, rfl, bx, hA, hC, kA, kC⟩ := hcut
    clear x0 x1 x2 x3 x4 x5 x6 x7 x8 x9 x10 c0 c1 c2 c3 c4 c5 c6 c7
    have BX := Lib.hid (B0.out.trans (bx.mono B0.out.size))
    have K2 := Lib.hid (K1.out.up bx)
    have k0 := kC.c 0 _ rfl
    have kl := kC.lt
    have d2 := kA.c 2 _ rfl
    have dl' := kA.lt
    have zl := K2.out.lt
    have hmk := make_strs l2 hle
    clear bx kA kC
    go_upto_region 8 with fail
    have I0 := Lib.hid (show NInv w (wc.alloc (.cells (madeCells #[.string ByteArray.empty] l2) 9)) w.heap.size wc.heap.size l2 0 es from
      ⟨BX.out.alloc BX.out.size _, K2.out.alloc _, (row_new wc l2 (.string ByteArray.empty) 9).ext (fun j _ => by rw [if_neg (by omega)])⟩)
    have d2' := ((Below.refl wc.heap.size wc).alloc (Nat.le_refl _) (.cells (madeCells #[.string ByteArray.empty] l2) 9)).cell (p := ⟨A, 2, none⟩) dl'
    have d2a := d2'.trans d2
    have dla : A < (wc.alloc (.cells (madeCells #[.string ByteArray.empty] l2) 9)).heap.size := by simp; omega
    have hJR : w.heap.size ≠ wc.heap.size := by omega
    have hwR : w.heap.size ≤ wc.heap.size := by omega
    generalize wc.alloc (.cells (madeCells #[.string ByteArray.empty] l2) 9) = w4 at *
    generalize wc.heap.size = R at *
    clear d2' d2 hmk
    go_wp2_with fail
    go_loopg [10, 11, 59] l2 (fun gg _ _ s59 wr => ∃ i : Nat, i ≤ l2 ∧ l2 - i ≤ gg ∧ s59 = .int .i64 i ∧ Aside (NInv w wr w.heap.size R l2 i es))
    case atStart => exact ⟨0, by omega, by omega, rfl, I0.out⟩
    case round =>
      obtain ⟨i, hi, hg, rfl, I⟩ := hrel
      clear I0
      by_cases hlt : i < l2
      · have hltz : (i : Int) < (l2 : Int) := by omega
        have hi0 : (0 : Int) ≤ (i : Int) := Int.natCast_nonneg _
        obtain ⟨be, oe, rfl, hbe, hje⟩ := HEX.out (by omega)
        have g0 := (I.out.b.cell (p := ⟨be, oe + i * 2, none⟩) hbe).trans (hje i (by omega)).1
        have g1 := (I.out.b.cell (p := ⟨be, oe + i * 2 + 1, none⟩) hbe).trans (hje i (by omega)).2
        have hbr := Nat.lt_of_lt_of_le hbe I.out.b.size
        clear hje
        generalize hy : es.getD i D0 = y at *
        obtain ⟨x, ei⟩ := y
        simp only at g0 g1
        have Y := Lib.hid (show (es.getD i D0).n = x by rw [hy])
        clear hy
        have I1 := Lib.hid (I.out.step ((Below.refl wr.heap.size wr).alloc (Nat.le_refl _) (.cells #[.string x, .int .i64 ei] 93)))
        have rc := I1.out.row.c i hlt
        have rz := I1.out.row.fz i
        have rl := I1.out.row.lt
        go_wp2
        go_roundg (l2 - (i + 1))
        case measure => omega
        case rel => exact ⟨i + 1, by omega, by omega, by go_num, I1.out.put hwR hJR hlt Y.out⟩
      · obtain rfl : i = l2 := by omega
        have KZ := Lib.hid I.out.k
        have y0 := KZ.out.c 0 _ rfl
        have y1 := KZ.out.c 1 _ rfl
        have y2 := KZ.out.c 2 _ rfl
        have y3 := KZ.out.c 3 _ rfl
        have y4 := KZ.out.c 4 _ rfl
        have y5 := KZ.out.c 5 _ rfl
        have y6 := KZ.out.c 6 _ rfl
        have y7 := KZ.out.c 7 _ rfl
        have y8 := KZ.out.c 8 _ rfl
        have g0 := KZ.out.f 0 (by decide)
        have g1 := KZ.out.f 1 (by decide)
        have g2 := KZ.out.f 2 (by decide)
        have g3 := KZ.out.f 3 (by decide)
        have g4 := KZ.out.f 4 (by decide)
        have g5 := KZ.out.f 5 (by decide)
        have g6 := KZ.out.f 6 (by decide)
        have g7 := KZ.out.f 7 (by decide)
        have g8 := KZ.out.f 8 (by decide)
        have zl2 := KZ.out.lt
        have S := Lib.hid (store9 KZ.out rfl I.out.b (Nat.le_refl _) (.int .i64 0) (.slice none 0 0) (.slice (some ⟨R, 0, none⟩) i i) (.int .i64 0) (.int .i64 0) (.int .i64 0) (.int .i64 0) (.int .i64 0) (.int .i64 0))
        have HST := Lib.hid (show Strs wr wr.heap.size (.slice (some ⟨R, 0, none⟩) i i) (es.map (·.n)) from by
          refine ⟨_, _, by rw [List.length_map, hl2], by simp [hl2], by simp [hl2]; omega, fun x hx => ?_, fun _ => ⟨R, 0, rfl, I.out.row.lt, fun j hj => ?_⟩⟩
          · obtain ⟨e, he, rfl⟩ := List.mem_map.1 hx
            exact (HEF.out e he).1
          · have hj2 : j < es.length := by simpa using hj
            rw [Nat.zero_add, I.out.row.c j (by omega)]
            rw [if_pos (by omega), List.getD_eq_getElem?_getD, List.getD_eq_getElem?_getD, List.getElem?_map, List.getElem?_eq_getElem hj2]
            rfl)
        have RZ := Lib.hid (RpS.low9 (n := w.heap.size) (show RpS wr R wr.heap.size (.slice none 0 0) (.slice (some ⟨R, 0, none⟩) i i) ⟨0, [], es.map (·.n), S0⟩ from ⟨Byts.none_ _ _, HST.out, fun _ e => (by cases e), fun q e => (by have e : some R = some q := e; injection e with e; omega)⟩) (by omega) (.int .i64 0) (.slice none 0 0) (.slice (some ⟨R, 0, none⟩) i i) (.int .i64 0) (.int .i64 0) (.int .i64 0) (.int .i64 0) (.int .i64 0) (.int .i64 0))
        go_wp2
        generalize hw : World.setCell _ ⟨w.heap.size, 8, none⟩ _ = wz at *
        clear y0 y1 y2 y3 y4 y5 y6 y7 y8
        have y0 := S.out.1.c 0 _ rfl
        have y1 := S.out.1.c 1 _ rfl
        have y2 := S.out.1.c 2 _ rfl
        have y3 := S.out.1.c 3 _ rfl
        have y4 := S.out.1.c 4 _ rfl
        have y5 := S.out.1.c 5 _ rfl
        have y6 := S.out.1.c 6 _ rfl
        have y7 := S.out.1.c 7 _ rfl
        have y8 := S.out.1.c 8 _ rfl
        exact bodyPost_ret (v := rpV ⟨0, [], es.map (·.n), S0⟩ (.slice none 0 0) (.slice (some ⟨R, 0, none⟩) i i)) (by simp [results, Tryz.results35, rpV, go_sem, y0, y1, y2, y3, y4, y5, y6, y7, y8]) rfl ⟨_, _, rfl, RZ.out.lower hwR, S.out.2⟩

end Go.Proofs.YtmbbmmnpkdfecaaGreatDoor
