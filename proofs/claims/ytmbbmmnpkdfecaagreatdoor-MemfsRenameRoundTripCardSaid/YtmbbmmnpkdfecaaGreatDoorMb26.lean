/- Package memfs and what it calls, at this seat's translation.
   Condition: as each theorem states; this text: MfReply3. -/
import Derived.Test.YtmbbmmnpkdfecaaGreatDoorMb24
import Derived.Test.YtmbbmmnpkdfecaaGreatDoorMb21

set_option linter.all false

/- reply to OpRead: the bytes of a range. Conditions: the execution lies in memory as it reads; the number lies in the tree; the request passed its checks. -/

set_option linter.all false
namespace Go.Proofs.YtmbbmmnpkdfecaaGreatDoor
open Go.RowKit

theorem sub_news {w : World} {B L c : Nat} {a : Option Addr} {D : List UInt8} (h : Byts w B (.slice a L c) D) (m1 m2 : Nat) (h2 : m2 ≤ L) :
    (Option.map (fun x => x.add m1) a = none → m2 - m1 = 0) ∧ (flatB ((D.take m2).drop m1)).length = (m2 - m1) * 1 ∧ ∀ ad, Option.map (fun x => x.add m1) a = some ad → ∀ j u, (flatB ((D.take m2).drop m1))[j]? = some u → w.cell? (ad.add j) = some u := by
  obtain ⟨a', c', hv, hc, hl, hx⟩ := h
  injection hv with e1 e2 e3
  subst e1 e2 e3
  refine ⟨fun e => ?_, ?_, fun ad e j u hu => ?_⟩
  · cases a with
    | none =>
      rcases Nat.eq_zero_or_pos D.length with h0 | h0
      · omega
      · obtain ⟨b, o, hb, _⟩ := hx h0; cases hb
    | some a0 => cases e
  · rw [flatB_len, List.length_drop, List.length_take]; omega
  · have hj := (List.getElem?_eq_some_iff.1 hu).1
    rw [flatB_len, List.length_drop, List.length_take] at hj
    obtain ⟨b, o, rfl, _, hj2⟩ := hx (by omega)
    injection e with e
    subst e
    have hadd : (((⟨b, o, none⟩ : Addr).add m1).add j) = ⟨b, o + (m1 + j), none⟩ := by
      rw [add_plain2, add_plain2, Nat.add_assoc]
    rw [hadd, hj2 (m1 + j) (by omega)]
    unfold flatB at hu
    rw [List.getElem?_map, List.getElem?_drop, List.getElem?_take_of_lt (by omega), List.getElem?_eq_getElem (by omega)] at hu
    rw [List.getD_eq_getElem?_getD, List.getElem?_eq_getElem (by omega)]
    exact hu

set_option maxRecDepth 100000 in
set_option maxHeartbeats 3200000 in
theorem reply3_any (X g cap : Nat) (t : FT) (r : Rq) (vd va : Value) (n : Nat) (w : World) (h : XR w X g cap t r vd va) (hn : n < t.length) (hk : r.k = 3) (G : RqG r) :
    Calls Tryz.prog 35 #[.pointer (some ⟨X, 0, none⟩), .int .i64 (n : Int)] w (ReplyPost (replyF t r n) w) := by
  have HR := Lib.hid (show replyF t r n = ⟨0, ((ino t n).d.take (min (r.off.toNat + r.sz.toNat) (ino t n).d.length)).drop (min r.off.toNat (ino t n).d.length), [], S0⟩ by unfold replyF; rw [if_pos hk])
  rw [HR.out]
  clear HR
  have hfit := h.fit n hn
  have hd1000 : (ino t n).d.length ≤ 1000 := hfit.ld
  obtain ⟨hgl, ⟨se, sd, sa, sx⟩, hc, hs, hby⟩ := h.one hn
  obtain ⟨ea, ec, rfl, _⟩ := hs.es
  obtain ⟨da, dc, hda, hdc, _⟩ := id hby
  simp only at hda
  subst hda
  have HBY := Lib.hid hby
  clear hby
  obtain ⟨aa, ac, rfl, _⟩ := hs.ac
  obtain ⟨xa, xc, rfl, _⟩ := hs.xs
  have c0 := hc.c0
  have c1 := hc.c1
  have c2 := hc.c2
  have c3 := hc.c3
  have c4 := hc.c4
  have c5 := hc.c5
  have c6 := hc.c6
  have c7 := hc.c7
  simp only at c2 c3 c4 c5
  have x0 := h.b.c 0 _ rfl
  obtain ⟨x1, x2, x3, x4, x5, x6, x7, x8, x9, x10⟩ := h.rqc
  obtain ⟨qa, qc, rfl, _⟩ := h.rq.d
  obtain ⟨pa, pc, rfl, _⟩ := h.rq.ac
  have xl := h.b.lt
  have nz : (n : Int) < (t.length : Int) := by omega
  have n0 : (0 : Int) ≤ (n : Int) := Int.natCast_nonneg _
  have h40 := h.len
  clear hc hs h
  have HDL := Lib.hid (show (ino t n).nod.dl = (ino t n).d.length from rfl)
  have ok := G.ok
  have z1 : r.sz ≤ 1000000 := by
    have := G.sz
    unfold szB maxSz at this
    rw [if_neg (by omega), if_neg (by omega)] at this
    simp only [decide_eq_true_eq] at this
    exact this.2
  obtain ⟨o, ho⟩ := Int.eq_ofNat_of_zero_le ok.o0
  obtain ⟨q, hq⟩ := Int.eq_ofNat_of_zero_le ok.z0
  have o1 := ok.o1
  clear ok G
  rw [ho, hq, Int.toNat_natCast, Int.toNat_natCast]
  rw [ho] at x5 o1
  rw [hq] at x6 z1
  clear ho hq
  generalize (ino t n).d = D at *
  generalize hL3 : D.length = L3 at *
  generalize (ino t n).nod = nd at *
  generalize nd.es.length = l2 at *
  generalize nd.ac.length = l4 at *
  generalize nd.xs.length = l5 at *
  generalize t.length = L at *
  rw [hk] at x1
  have B0 := Lib.hid ((Below.refl w.heap.size w).alloc (Nat.le_refl _) (.cells #[.int .i64 0, .slice none 0 0, .slice none 0 0, .int .i64 0, .int .i64 0, .int .i64 0, .int .i64 0, .int .i64 0, .int .i64 0] 35))
  have K0 := Lib.hid (Blk.new w zeroRp 35)
  have K1 : Hid (Blk (w.alloc (.cells #[.int .i64 0, .slice none 0 0, .slice none 0 0, .int .i64 0, .int .i64 0, .int .i64 0, .int .i64 0, .int .i64 0, .int .i64 0] 35)) w.heap.size zeroRp) := K0
  clear K0
  by_cases hcap : L3 ≤ o ∧ L3 = dc
  · obtain ⟨hLo, hLd⟩ := hcap
    have hnil : (D.take (min (o + q) L3)).drop (min o L3) = [] := by
      refine List.drop_eq_nil_of_le ?_
      rw [List.length_take]; omega
    rw [hnil]
    clear hnil
    subst hLd
    go_enter Tryz.func35, Tryz.ntmps35
    go_upto_region 1 with fail
    generalize w.alloc (.cells #[.int .i64 0, .slice none 0 0, .slice none 0 0, .int .i64 0, .int .i64 0, .int .i64 0, .int .i64 0, .int .i64 0, .int .i64 0] 35) = w1 at *
    replace x0 := (B0.out.cell (p := ⟨X, 0, none⟩) xl).trans x0
    replace x1 := (B0.out.cell (p := ⟨X, 1, none⟩) xl).trans x1
    replace x2 := (B0.out.cell (p := ⟨X, 2, none⟩) xl).trans x2
    replace x3 := (B0.out.cell (p := ⟨X, 3, none⟩) xl).trans x3
    replace x4 := (B0.out.cell (p := ⟨X, 4, none⟩) xl).trans x4
    replace x5 := (B0.out.cell (p := ⟨X, 5, none⟩) xl).trans x5
    replace x6 := (B0.out.cell (p := ⟨X, 6, none⟩) xl).trans x6
    replace x7 := (B0.out.cell (p := ⟨X, 7, none⟩) xl).trans x7
    replace x8 := (B0.out.cell (p := ⟨X, 8, none⟩) xl).trans x8
    replace x9 := (B0.out.cell (p := ⟨X, 9, none⟩) xl).trans x9
    replace x10 := (B0.out.cell (p := ⟨X, 10, none⟩) xl).trans x10
    replace c0 := (B0.out.cell (p := ⟨g, n * 8, none⟩) hgl).trans c0
    replace c1 := (B0.out.cell (p := ⟨g, n * 8 + 1, none⟩) hgl).trans c1
    replace c2 := (B0.out.cell (p := ⟨g, n * 8 + 2, none⟩) hgl).trans c2
    replace c3 := (B0.out.cell (p := ⟨g, n * 8 + 3, none⟩) hgl).trans c3
    replace c4 := (B0.out.cell (p := ⟨g, n * 8 + 4, none⟩) hgl).trans c4
    replace c5 := (B0.out.cell (p := ⟨g, n * 8 + 5, none⟩) hgl).trans c5
    replace c6 := (B0.out.cell (p := ⟨g, n * 8 + 6, none⟩) hgl).trans c6
    replace c7 := (B0.out.cell (p := ⟨g, n * 8 + 7, none⟩) hgl).trans c7
    replace xl := Nat.lt_of_lt_of_le xl B0.out.size
    replace hgl := Nat.lt_of_lt_of_le hgl B0.out.size
    go_cut [5, 6] from 12 to 23 (fun s5 s6 wx => ∃ A C : Nat, s5 = .pointer (some ⟨A, 0, none⟩) ∧ s6 = .pointer (some ⟨C, 0, none⟩) ∧ Below w1.heap.size w1 wx ∧ w1.heap.size ≤ A ∧ w1.heap.size ≤ C ∧
      Blk wx A [.int .i64 nd.k, .int .i64 nd.o, .slice ea l2 ec, .slice da L3 L3, .slice aa l4 ac, .slice xa l5 xc, .int .i64 nd.q, .int .i64 nd.v] ∧ Blk wx C [.int .i64 3, .int .i64 r.u, .string r.p, .string r.t, .int .i64 (o : Int), .int .i64 (q : Int), .slice qa r.d.length qc, .slice pa r.ac.length pc, .string r.a.n, .string r.a.v])
    case first =>
      go_region
      all_goals
        go_wp2_with fail
        go_meet
        first
        | exact ⟨_, _, rfl, rfl, (two_blks w1 [.int .i64 nd.k, .int .i64 nd.o, .slice ea l2 ec, .slice da L3 L3, .slice aa l4 ac, .slice xa l5 xc, .int .i64 nd.q, .int .i64 nd.v] [.int .i64 3, .int .i64 r.u, .string r.p, .string r.t, .int .i64 (o : Int), .int .i64 (q : Int), .slice qa r.d.length qc, .slice pa r.ac.length pc, .string r.a.n, .string r.a.v] _ _).1, Nat.le_refl _, Nat.le_succ _, (two_blks w1 _ _ _ _).2.1, (two_blks w1 _ _ _ _).2.2⟩
        | exact ⟨_, _, rfl, rfl, (two_blks w1 [.int .i64 3, .int .i64 r.u, .string r.p, .string r.t, .int .i64 (o : Int), .int .i64 (q : Int), .slice qa r.d.length qc, .slice pa r.ac.length pc, .string r.a.n, .string r.a.v] [.int .i64 nd.k, .int .i64 nd.o, .slice ea l2 ec, .slice da L3 L3, .slice aa l4 ac, .slice xa l5 xc, .int .i64 nd.q, .int .i64 nd.v] _ _).1, Nat.le_succ _, Nat.le_refl _, (two_blks w1 _ _ _ _).2.2, (two_blks w1 _ _ _ _).2.1⟩
    case rest =>
      obtain ⟨A, C, rfl, rfl, bx, hA, hC, kA, kC⟩ := hcut
      clear x0 x1 x2 x3 x4 x5 x6 x7 x8 x9 x10 c0 c1 c2 c3 c4 c5 c6 c7
      have BX := Lib.hid (B0.out.trans (bx.mono B0.out.size))
      have K2 := Lib.hid (K1.out.up bx)
      have k0 := kC.c 0 _ rfl
      have kl := kC.lt
      have d3 := kA.c 3 _ rfl
      have dl' := kA.lt
      have e4 := kC.c 4 _ rfl
      have e5 := kC.c 5 _ rfl
      have zl := K2.out.lt
      have hwr : IntKind.i64.wrap ((o : Int) + (q : Int)) = (o : Int) + (q : Int) := IntWalk.i64_in _ (by omega)
      clear bx kA kC
      go_upto_region 4 with fail
      go_region
      all_goals
        have hm1 : min (o : Int) (L3 : Int) = (L3 : Int) := by omega
        have hm2 : min ((o : Int) + (q : Int)) (L3 : Int) = (L3 : Int) := by omega
        rw [hm1, hm2]
        have i1 : (0 : Int) ≤ (L3 : Int) := by omega
        clear hm1 hm2
        go_wp2_with fail
        refine (cloneB_any da 0 0 [] _ rfl (by omega) (fun _ => rfl) (fun ad _ j u hu => (by cases hu)) (by intro u hu; cases hu)).mono ?_
        rintro e z ⟨v', rfl, hown, hbz⟩
        obtain ⟨a', c', rfl⟩ := own_slice hown
        have HBZ := Lib.hid ((Below.refl wc.heap.size wc).drew.trans hbz)
        have HV := Lib.hid hown
        clear hown hbz
        have KZ := Lib.hid (K2.out.up HBZ.out)
        have y0 := KZ.out.c 0 _ rfl
        have y1 := KZ.out.c 1 _ rfl
        have y2 := KZ.out.c 2 _ rfl
        have y3 := KZ.out.c 3 _ rfl
        have y4 := KZ.out.c 4 _ rfl
        have y5 := KZ.out.c 5 _ rfl
        have y6 := KZ.out.c 6 _ rfl
        have y7 := KZ.out.c 7 _ rfl
        have y8 := KZ.out.c 8 _ rfl
        have g0 := KZ.out.f 0 (by decide)
        have g1 := KZ.out.f 1 (by decide)
        have g2 := KZ.out.f 2 (by decide)
        have g3 := KZ.out.f 3 (by decide)
        have g4 := KZ.out.f 4 (by decide)
        have g5 := KZ.out.f 5 (by decide)
        have g6 := KZ.out.f 6 (by decide)
        have g7 := KZ.out.f 7 (by decide)
        have g8 := KZ.out.f 8 (by decide)
        have zl2 := KZ.out.lt
        have S := Lib.hid (store9 KZ.out rfl (BX.out.trans (HBZ.out.mono BX.out.size)) (Nat.le_refl _) (.int .i64 0) (.slice a' 0 c') (.slice none 0 0) (.int .i64 0) (.int .i64 0) (.int .i64 0) (.int .i64 0) (.int .i64 0) (.int .i64 0))
        have hdl9 : ([] : List UInt8).length ≤ 140737488355328 := by simp
        have RZ := Lib.hid (RpS.low9 (n := w.heap.size) (show RpS z wc.heap.size z.heap.size (.slice a' 0 c') (.slice none 0 0) ⟨0, [], [], S0⟩ from ⟨byts_own HV.out hdl9, Strs.none_ _ _, fun q e => (HV.out.lt q e).1, fun _ e => (by cases e)⟩) (by have := K2.out.lt; omega) (.int .i64 0) (.slice a' 0 c') (.slice none 0 0) (.int .i64 0) (.int .i64 0) (.int .i64 0) (.int .i64 0) (.int .i64 0) (.int .i64 0))
        go_wp2
        generalize hw : World.setCell _ ⟨w.heap.size, 8, none⟩ _ = wz at *
        clear y0 y1 y2 y3 y4 y5 y6 y7 y8
        have y0 := S.out.1.c 0 _ rfl
        have y1 := S.out.1.c 1 _ rfl
        have y2 := S.out.1.c 2 _ rfl
        have y3 := S.out.1.c 3 _ rfl
        have y4 := S.out.1.c 4 _ rfl
        have y5 := S.out.1.c 5 _ rfl
        have y6 := S.out.1.c 6 _ rfl
        have y7 := S.out.1.c 7 _ rfl
        have y8 := S.out.1.c 8 _ rfl
        have hlo := BX.out.size
        exact bodyPost_ret (v := rpV ⟨0, [], [], S0⟩ (.slice a' 0 c') (.slice none 0 0)) (by simp [results, Tryz.results35, rpV, go_sem, y0, y1, y2, y3, y4, y5, y6, y7, y8]) rfl ⟨_, _, rfl, RZ.out.lower hlo, S.out.2⟩
  · have hcap2 : min o L3 < dc := by omega
    clear hcap
    go_enter Tryz.func35, Tryz.ntmps35
    go_upto_region 1 with fail
    generalize w.alloc (.cells #[.int .i64 0, .slice none 0 0, .slice none 0 0, .int .i64 0, .int .i64 0, .int .i64 0, .int .i64 0, .int .i64 0, .int .i64 0] 35) = w1 at *
    replace x0 := (B0.out.cell (p := ⟨X, 0, none⟩) xl).trans x0
    replace x1 := (B0.out.cell (p := ⟨X, 1, none⟩) xl).trans x1
    replace x2 := (B0.out.cell (p := ⟨X, 2, none⟩) xl).trans x2
    replace x3 := (B0.out.cell (p := ⟨X, 3, none⟩) xl).trans x3
    replace x4 := (B0.out.cell (p := ⟨X, 4, none⟩) xl).trans x4
    replace x5 := (B0.out.cell (p := ⟨X, 5, none⟩) xl).trans x5
    replace x6 := (B0.out.cell (p := ⟨X, 6, none⟩) xl).trans x6
    replace x7 := (B0.out.cell (p := ⟨X, 7, none⟩) xl).trans x7
    replace x8 := (B0.out.cell (p := ⟨X, 8, none⟩) xl).trans x8
    replace x9 := (B0.out.cell (p := ⟨X, 9, none⟩) xl).trans x9
    replace x10 := (B0.out.cell (p := ⟨X, 10, none⟩) xl).trans x10
    replace c0 := (B0.out.cell (p := ⟨g, n * 8, none⟩) hgl).trans c0
    replace c1 := (B0.out.cell (p := ⟨g, n * 8 + 1, none⟩) hgl).trans c1
    replace c2 := (B0.out.cell (p := ⟨g, n * 8 + 2, none⟩) hgl).trans c2
    replace c3 := (B0.out.cell (p := ⟨g, n * 8 + 3, none⟩) hgl).trans c3
    replace c4 := (B0.out.cell (p := ⟨g, n * 8 + 4, none⟩) hgl).trans c4
    replace c5 := (B0.out.cell (p := ⟨g, n * 8 + 5, none⟩) hgl).trans c5
    replace c6 := (B0.out.cell (p := ⟨g, n * 8 + 6, none⟩) hgl).trans c6
    replace c7 := (B0.out.cell (p := ⟨g, n * 8 + 7, none⟩) hgl).trans c7
    replace xl := Nat.lt_of_lt_of_le xl B0.out.size
    replace hgl := Nat.lt_of_lt_of_le hgl B0.out.size
    go_cut [5, 6] from 12 to 23 (fun s5 s6 wx => ∃ A C : Nat, s5 = .pointer (some ⟨A, 0, none⟩) ∧ s6 = .pointer (some ⟨C, 0, none⟩) ∧ Below w1.heap.size w1 wx ∧ w1.heap.size ≤ A ∧ w1.heap.size ≤ C ∧
      Blk wx A [.int .i64 nd.k, .int .i64 nd.o, .slice ea l2 ec, .slice da L3 dc, .slice aa l4 ac, .slice xa l5 xc, .int .i64 nd.q, .int .i64 nd.v] ∧ Blk wx C [.int .i64 3, .int .i64 r.u, .string r.p, .string r.t, .int .i64 (o : Int), .int .i64 (q : Int), .slice qa r.d.length qc, .slice pa r.ac.length pc, .string r.a.n, .string r.a.v])
    case first =>
      go_region
      all_goals
        go_wp2_with fail
        go_meet
        first
        | exact ⟨_, _, rfl, rfl, (two_blks w1 [.int .i64 nd.k, .int .i64 nd.o, .slice ea l2 ec, .slice da L3 dc, .slice aa l4 ac, .slice xa l5 xc, .int .i64 nd.q, .int .i64 nd.v] [.int .i64 3, .int .i64 r.u, .string r.p, .string r.t, .int .i64 (o : Int), .int .i64 (q : Int), .slice qa r.d.length qc, .slice pa r.ac.length pc, .string r.a.n, .string r.a.v] _ _).1, Nat.le_refl _, Nat.le_succ _, (two_blks w1 _ _ _ _).2.1, (two_blks w1 _ _ _ _).2.2⟩
        | exact ⟨_, _, rfl, rfl, (two_blks w1 [.int .i64 3, .int .i64 r.u, .string r.p, .string r.t, .int .i64 (o : Int), .int .i64 (q : Int), .slice qa r.d.length qc, .slice pa r.ac.length pc, .string r.a.n, .string r.a.v] [.int .i64 nd.k, .int .i64 nd.o, .slice ea l2 ec, .slice da L3 dc, .slice aa l4 ac, .slice xa l5 xc, .int .i64 nd.q, .int .i64 nd.v] _ _).1, Nat.le_succ _, Nat.le_refl _, (two_blks w1 _ _ _ _).2.2, (two_blks w1 _ _ _ _).2.1⟩
    case rest =>
      obtain ⟨A, C, rfl, rfl, bx, hA, hC, kA, kC⟩ := hcut
      clear x0 x1 x2 x3 x4 x5 x6 x7 x8 x9 x10 c0 c1 c2 c3 c4 c5 c6 c7
      have BX := Lib.hid (B0.out.trans (bx.mono B0.out.size))
      have K2 := Lib.hid (K1.out.up bx)
      have k0 := kC.c 0 _ rfl
      have kl := kC.lt
      have d3 := kA.c 3 _ rfl
      have dl' := kA.lt
      have e4 := kC.c 4 _ rfl
      have e5 := kC.c 5 _ rfl
      have zl := K2.out.lt
      have hwr : IntKind.i64.wrap ((o : Int) + (q : Int)) = (o : Int) + (q : Int) := IntWalk.i64_in _ (by omega)
      clear bx kA kC
      go_upto_region 4 with fail
      go_region
      all_goals
        have hm1 : min (o : Int) (L3 : Int) = ((min o L3 : Nat) : Int) := by omega
        have hm2 : min ((o : Int) + (q : Int)) (L3 : Int) = ((min (o + q) L3 : Nat) : Int) := by omega
        rw [hm1, hm2]
        have h12 : min o L3 ≤ min (o + q) L3 := by omega
        have h2L : min (o + q) L3 ≤ L3 := by omega
        generalize min o L3 = m1 at *
        generalize min (o + q) L3 = m2 at *
        have i1 : (0 : Int) ≤ (m1 : Int) := by omega
        have i2 : (m1 : Int) ≤ (m2 : Int) := by omega
        have i3 : (m2 : Int) ≤ (dc : Int) := by omega
        have HSN := Lib.hid (sub_news ((HBY.out.up BX.out).up (Below.refl wc.heap.size wc).drew) m1 m2 h2L)
        have hlt : m1 < dc := by omega
        go_wp2_with fail
        refine (cloneB_any _ (m2 - m1) (dc - m1) (flatB ((D.take m2).drop m1)) _ HSN.out.2.1 (by omega) HSN.out.1 HSN.out.2.2 (flatB_one _)).mono ?_
        rintro e z ⟨v', rfl, hown, hbz⟩
        obtain ⟨a', c', rfl⟩ := own_slice hown
        have HBZ := Lib.hid ((Below.refl wc.heap.size wc).drew.trans hbz)
        have HV := Lib.hid hown
        clear hown hbz
        have KZ := Lib.hid (K2.out.up HBZ.out)
        have y0 := KZ.out.c 0 _ rfl
        have y1 := KZ.out.c 1 _ rfl
        have y2 := KZ.out.c 2 _ rfl
        have y3 := KZ.out.c 3 _ rfl
        have y4 := KZ.out.c 4 _ rfl
        have y5 := KZ.out.c 5 _ rfl
        have y6 := KZ.out.c 6 _ rfl
        have y7 := KZ.out.c 7 _ rfl
        have y8 := KZ.out.c 8 _ rfl
        have g0 := KZ.out.f 0 (by decide)
        have g1 := KZ.out.f 1 (by decide)
        have g2 := KZ.out.f 2 (by decide)
        have g3 := KZ.out.f 3 (by decide)
        have g4 := KZ.out.f 4 (by decide)
        have g5 := KZ.out.f 5 (by decide)
        have g6 := KZ.out.f 6 (by decide)
        have g7 := KZ.out.f 7 (by decide)
        have g8 := KZ.out.f 8 (by decide)
        have zl2 := KZ.out.lt
        have S := Lib.hid (store9 KZ.out rfl (BX.out.trans (HBZ.out.mono BX.out.size)) (Nat.le_refl _) (.int .i64 0) (.slice a' (m2 - m1) c') (.slice none 0 0) (.int .i64 0) (.int .i64 0) (.int .i64 0) (.int .i64 0) (.int .i64 0) (.int .i64 0))
        have hdl9 : ((D.take m2).drop m1).length ≤ 140737488355328 := by simp; omega
        have RZ := Lib.hid (RpS.low9 (n := w.heap.size) (show RpS z wc.heap.size z.heap.size (.slice a' (m2 - m1) c') (.slice none 0 0) ⟨0, (D.take m2).drop m1, [], S0⟩ from ⟨byts_own HV.out hdl9, Strs.none_ _ _, fun q e => (HV.out.lt q e).1, fun _ e => (by cases e)⟩) (by have := K2.out.lt; omega) (.int .i64 0) (.slice a' (m2 - m1) c') (.slice none 0 0) (.int .i64 0) (.int .i64 0) (.int .i64 0) (.int .i64 0) (.int .i64 0) (.int .i64 0))
        go_wp2
        generalize hw : World.setCell _ ⟨w.heap.size, 8, none⟩ _ = wz at *
        clear y0 y1 y2 y3 y4 y5 y6 y7 y8
        have y0 := S.out.1.c 0 _ rfl
        have y1 := S.out.1.c 1 _ rfl
        have y2 := S.out.1.c 2 _ rfl
        have y3 := S.out.1.c 3 _ rfl
        have y4 := S.out.1.c 4 _ rfl
        have y5 := S.out.1.c 5 _ rfl
        have y6 := S.out.1.c 6 _ rfl
        have y7 := S.out.1.c 7 _ rfl
        have y8 := S.out.1.c 8 _ rfl
        have hlo := BX.out.size
        exact bodyPost_ret (v := rpV ⟨0, (D.take m2).drop m1, [], S0⟩ (.slice a' (m2 - m1) c') (.slice none 0 0)) (by simp [results, Tryz.results35, rpV, go_sem, y0, y1, y2, y3, y4, y5, y6, y7, y8]) rfl ⟨_, _, rfl, RZ.out.lower hlo, S.out.2⟩

end Go.Proofs.YtmbbmmnpkdfecaaGreatDoor
