/- Package memfs and what it calls, at this seat's translation.
   Condition: as each theorem states; this text: MfRunW. -/
import Derived.Test.YtmbbmmnpkdfecaaGreatDoorMb32

set_option linter.all false

/- Run: requests applied in order to an empty tree: the walk. Conditions: the requests lie in memory as they read. -/

set_option linter.all false
namespace Go.Proofs.YtmbbmmnpkdfecaaGreatDoor
open Go.RowKit

set_option maxRecDepth 100000 in
set_option maxHeartbeats 1600000 in
theorem runMany_any (a : Option Addr) (c : Nat) (l : List Rq) (w : World) (hl : 60 < l.length) (h63 : l.length ≤ 35184372088832) :
    Calls Tryz.prog 19 #[.slice a l.length c] w (RunPost l w) := by
  have hz : (60 : Int) < (l.length : Int) := by omega
  have HP := Lib.hid (show ∀ e w', Below w.heap.size w w' → e = .returned (.tuple #[.agg #[.slice none 0 0], .slice none 0 0, .agg #[.int .i64 2, .int .i64 (-1)]]) → RunPost l w e w' from fun e w' h1 h2 => ⟨h1, by rw [if_pos hl]; exact h2⟩)
  clear hl
  generalize l.length = n at *
  go_enter Tryz.func19, Tryz.ntmps19
  go_wp2
  exact bodyPost_ret (v := .tuple #[.agg #[.slice none 0 0], .slice none 0 0, .agg #[.int .i64 2, .int .i64 (-1)]]) (by simp [results, Tryz.results19, go_sem]) rfl (HP.out _ _ (by repeat (first | exact Below.refl _ _ | refine Below.setCell ?_ (by first | omega | (simp; done) | (simp; omega)) _ | refine Below.alloc ?_ (by first | omega | (simp; done) | (simp; omega)) _)) rfl)

/-- The two result blocks of Run. -/
structure R2 (w0 w : World) (B N : Nat) : Prop where
  b : Below B w0 w
  o : Blk w B [.slice none 0 0]
  f : Blk w N [.int .i64 0, .int .i64 0]
  l : B < N
theorem R2.up {w0 w w' : World} {B N : Nat} (h : R2 w0 w B N) (hb : Below w.heap.size w w') : R2 w0 w' B N :=
  ⟨h.b.trans (hb.mono (by have := h.o.lt; omega)), h.o.up hb, h.f.up hb, h.l⟩
theorem R2.new (w : World) : R2 w ((w.alloc (.cells #[.slice none 0 0] 24)).alloc (.cells #[.int .i64 0, .int .i64 0] 37)) w.heap.size (w.heap.size + 1) :=
  ⟨((Below.refl _ _).alloc (Nat.le_refl _) _).alloc (by simp) _, (Blk.new w [.slice none 0 0] 24).alloc _, (Blk.new (w.alloc _) [.int .i64 0, .int .i64 0] 37).at_ (by simp), by omega⟩
theorem R2.store {w0 w : World} {B N : Nat} (h : R2 w0 w B N) (T f0 f1 : Value) :
    Below B w0 (((w.setCell ⟨B, 0, none⟩ T).setCell ⟨N, 0, none⟩ f0).setCell ⟨N, 1, none⟩ f1) ∧ Blk (((w.setCell ⟨B, 0, none⟩ T).setCell ⟨N, 0, none⟩ f0).setCell ⟨N, 1, none⟩ f1) B [T] ∧ Blk (((w.setCell ⟨B, 0, none⟩ T).setCell ⟨N, 0, none⟩ f0).setCell ⟨N, 1, none⟩ f1) N [f0, f1] := by
  have d : N ≠ B := by have := h.l; omega
  have hBN : B ≤ N := by have := h.l; omega
  exact ⟨((h.b.setCell (p := ⟨B, 0, none⟩) (Nat.le_refl _) T).setCell (p := ⟨N, 0, none⟩) hBN f0).setCell (p := ⟨N, 1, none⟩) hBN f1,
    ((h.o.put 0 T (by simp)).far (p := ⟨N, 0, none⟩) d.symm f0).far (p := ⟨N, 1, none⟩) d.symm f1,
    ((h.f.far (p := ⟨B, 0, none⟩) d T).put 0 f0 (by simp)).put 1 f1 (by simp)⟩
theorem rqsC_bad {l : List Rq} {i : Nat} (hi : i < l.length) (hc : rqC (l.getD i R0) ≠ 0) (hA : ∀ j, j < i → rqC (l.getD j R0) = 0) : rqsC l = (rqC (l.getD i R0), (i : Int)) := by
  have := firstNZ_hit (fun j => rqC (l.getD j R0)) l.length 0 i hi (by simpa using hc) (by simpa using hA)
  rw [Nat.zero_add] at this
  exact this
theorem rqsC_ok {l : List Rq} (hA : ∀ j, j < l.length → rqC (l.getD j R0) = 0) : rqsC l = (0, 0) :=
  firstNZ_miss (fun j => rqC (l.getD j R0)) l.length 0 (by simpa using hA)

theorem rep_info : (Tryz.prog.info? 35).map (fun i => (i.zero, i.size, i.bytes)) = some (some (.agg #[.int .i64 0, .slice none 0 0, .slice none 0 0, .int .i64 0, .int .i64 0, .int .i64 0, .int .i64 0, .int .i64 0, .int .i64 0]), 9, 104) := by kernel_rfl
theorem make_replies (n : Nat) (hn : n ≤ 60) (w : World) : (Instr.makeSlice 49 (.int .i64 (n : Int)) (.int .i64 (n : Int))).run Tryz.prog w = .ok (.slice (some ⟨w.heap.size, 0, none⟩) n n) (w.alloc (.cells (madeCells #[.int .i64 0, .slice none 0 0, .slice none 0 0, .int .i64 0, .int .i64 0, .int .i64 0, .int .i64 0, .int .i64 0, .int .i64 0] (n * 9)) 35)) := by
  obtain ⟨i0, hi, hz0, hz1, hz2⟩ := info_parts rep_info
  have hr := run_make (P := Tryz.prog) w 49 35 i0 _ Tryz.underlying49 hi hz0 .i64 .i64 n n (by omega) (by omega) (by rw [hz2]; omega) (by omega)
  simp only [Int.toNat_natCast, hz1] at hr
  exact hr
theorem rowE_new (w : World) (z : Array Value) (n : Nat) (T : TypeId) (hz : 0 < z.size) : RowE (w.alloc (.cells (madeCells z n) T)) w.heap.size n := by
  refine ⟨by simp, fun k hk => ?_, fun k => by simp⟩
  rw [World.cell?_alloc_new]
  have hs : (madeCells z n).size = n := by simp [madeCells]
  exact ⟨_, Array.getElem?_eq_getElem (by rw [hs]; exact hk)⟩
/-- The tree that Run begins with. -/
theorem ot_first (w : World) (base : Nat) (hb : base ≤ w.heap.size) : OT (w.alloc (.cells #[.int .i64 1, .int .i64 0, .slice none 0 0, .slice none 0 0, .slice none 0 0, .slice none 0 0, .int .i64 0, .int .i64 0] 63)) base w.heap.size 1 (fun _ => nilSl) T0 := by
  refine ⟨⟨_, rfl, .inr ⟨_, 1, _, rfl, hb, heap_alloc_new w _, by simp, by simp [maxLen], rfl, rfl⟩⟩, fun j hj i u hu => ?_, fun j hj => ?_, fun i j hi hj hij => ?_, fun j hj => ?_, by simp⟩
  · obtain rfl : j = 0 := by simpa using hj
    rw [Nat.zero_mul, Nat.zero_add, World.cell?_alloc_new]
    have e : inoL (ino T0 0) nilSl = [.int .i64 1, .int .i64 0, .slice none 0 0, .slice none 0 0, .slice none 0 0, .slice none 0 0, .int .i64 0, .int .i64 0] := rfl
    rw [e] at hu
    simpa using hu
  · obtain rfl : j = 0 := by simpa using hj
    exact rws_nil _ _ 1 0
  · simp at hi hj; omega
  · obtain rfl : j = 0 := by simpa using hj
    exact ⟨by unfold i64; simp [ino], i64_zero, i64_zero, i64_zero, (by intro e he; cases he), (by intro e he; cases he), (by intro e he; cases he), Nat.zero_le _, Nat.zero_le _, Nat.zero_le _, Nat.zero_le _⟩
theorem Rps.lower {w : World} {lo lo' R : Nat} {ps : List Rp} (h : Rps w lo R ps) (hl : lo' ≤ lo) : Rps w lo' R ps := fun j hj => by
  obtain ⟨vd, vn, hc, hs⟩ := h j hj
  exact ⟨vd, vn, hc, hs.lower hl⟩
/-- What holds between two requests. -/
structure RunI (w wr : World) (N T8 R m g cap : Nat) (sl : Nat → Sl) (t : FT) (ps : List Rp) : Prop where
  r2 : R2 w wr w.heap.size N
  tb : Blk wr T8 [.slice (some ⟨g, 0, none⟩) t.length cap]
  ot : OT wr (N + 1) g cap sl t
  row : RowE wr R m
  ps : Rps wr (R + 1) R ps
  l1 : N < T8
  l2 : T8 < R
  l3 : R < wr.heap.size
theorem RunI.up {w wr z : World} {N T8 R m g cap : Nat} {sl : Nat → Sl} {t : FT} {ps : List Rp} (h : RunI w wr N T8 R m g cap sl t ps) (hb : Below wr.heap.size wr z) : RunI w z N T8 R m g cap sl t ps :=
  ⟨h.r2.up hb, h.tb.up hb, h.ot.up hb, h.row.up hb, h.ps.up h.l3 hb, h.l1, h.l2, Nat.lt_of_lt_of_le h.l3 hb.size⟩
theorem R2.far {w0 w : World} {B N : Nat} (h : R2 w0 w B N) {p : Addr} (hp : N < p.block) (u : Value) : R2 w0 (w.setCell p u) B N :=
  ⟨h.b.setCell (p := p) (by have := h.l; omega) u, h.o.far (by have := h.l; omega) u, h.f.far (by omega) u, h.l⟩
theorem R2.putL {w0 w : World} {B N R : Nat} (h : R2 w0 w B N) (hR : N < R) (o : Nat) (vs : List Value) : R2 w0 (Go.Proofs.YtmbbmmnpkdfecaaGreatDoor.putL w R o vs) B N :=
  ⟨putL_below (by have := h.l; omega) vs w0 w o h.b, h.o.putL (by have := h.l; omega) vs o, h.f.putL (by omega) vs o, h.l⟩
theorem RunI.next {w wr z : World} {N T8 R m g cap : Nat} {sl : Nat → Sl} {t : FT} {ps : List Rp} (h : RunI w wr N T8 R m g cap sl t ps) (hb : Below wr.heap.size wr z) {W g' cap' : Nat} {sl' : Nat → Sl} {t' : FT} (hW : wr.heap.size ≤ W) (ho : OT z W g' cap' sl' t') {vd vn : Value} {p : Rp} (hs : RpS z W z.heap.size vd vn p) (hm : (ps.length + 1) * 9 ≤ m) :
    RunI w (putL (z.setCell ⟨T8, 0, none⟩ (.slice (some ⟨g', 0, none⟩) t'.length cap')) R (ps.length * 9) [.int .i64 p.c, vd, vn, .int .i64 p.s.i, .int .i64 p.s.k, .int .i64 p.s.o, .int .i64 p.s.z, .int .i64 p.s.l, .int .i64 p.s.v]) N T8 R m g' cap' sl' t' (ps ++ [p]) := by
  have k := h.up hb
  have h1 := h.l1; have h2 := h.l2; have h3 := h.l3
  have hz : (z.setCell ⟨T8, 0, none⟩ (.slice (some ⟨g', 0, none⟩) t'.length cap')).heap.size = z.heap.size := by simp
  refine ⟨(k.r2.far (p := ⟨T8, 0, none⟩) h1 _).putL (by omega) _ _, (k.tb.put 0 _ (by simp)).putL (by omega) _ _, (putL_ot (by omega) _ _ _ (ho.low (p := ⟨T8, 0, none⟩) (by simp only; omega) _)).lower (by omega), (k.row.far (p := ⟨T8, 0, none⟩) (by simp only; omega) _).putL _ _ (by simp only [List.length_cons, List.length_nil]; omega), ?_, h1, h2, by rw [putL_size, hz]; exact k.l3⟩
  refine (k.ps.far (p := ⟨T8, 0, none⟩) (by simp only; omega) (by simp only; omega) _).snoc (by omega) ?_ (k.row.far (p := ⟨T8, 0, none⟩) (by simp only; omega) _) hm
  rw [hz]
  exact (hs.low (a := ⟨T8, 0, none⟩) (by simp only; omega) _).lower (by omega)
theorem RunI.fin {w wr : World} {N T8 R m g cap : Nat} {sl : Nat → Sl} {t : FT} {ps : List Rp} (h : RunI w wr N T8 R m g cap sl t ps) :
    OT (((wr.setCell ⟨w.heap.size, 0, none⟩ (.slice (some ⟨g, 0, none⟩) t.length cap)).setCell ⟨N, 0, none⟩ (.int .i64 0)).setCell ⟨N, 1, none⟩ (.int .i64 0)) w.heap.size g cap sl t ∧ w.heap.size ≤ R
      ∧ R < (((wr.setCell ⟨w.heap.size, 0, none⟩ (.slice (some ⟨g, 0, none⟩) t.length cap)).setCell ⟨N, 0, none⟩ (.int .i64 0)).setCell ⟨N, 1, none⟩ (.int .i64 0)).heap.size
      ∧ Rps (((wr.setCell ⟨w.heap.size, 0, none⟩ (.slice (some ⟨g, 0, none⟩) t.length cap)).setCell ⟨N, 0, none⟩ (.int .i64 0)).setCell ⟨N, 1, none⟩ (.int .i64 0)) w.heap.size R ps := by
  have h0 := h.r2.l; have h1 := h.l1; have h2 := h.l2; have h3 := h.l3
  refine ⟨(((h.ot.low (p := ⟨w.heap.size, 0, none⟩) (by simp only; omega) _).low (p := ⟨N, 0, none⟩) (by simp only; omega) _).low (p := ⟨N, 1, none⟩) (by simp only; omega) _).lower (by omega), by omega, by simp; omega, ?_⟩
  exact (((h.ps.far (p := ⟨w.heap.size, 0, none⟩) (by simp only; omega) (by simp only; omega) _).far (p := ⟨N, 0, none⟩) (by simp only; omega) (by simp only; omega) _).far (p := ⟨N, 1, none⟩) (by simp only; omega) (by simp only; omega) _).lower (by omega)
theorem take_run {l : List Rq} {i : Nat} (hi : i < l.length) (t : FT) : runF t (l.take (i + 1)) = ((applyF (runF t (l.take i)).1 (l.getD i R0)).1, (runF t (l.take i)).2 ++ [(applyF (runF t (l.take i)).1 (l.getD i R0)).2]) := by
  rw [List.take_succ_eq_append_getElem hi, run_snoc, List.getD_eq_getElem?_getD, List.getElem?_eq_getElem hi]
  rfl

set_option maxRecDepth 100000 in
set_option maxHeartbeats 3200000 in
theorem run_any (a : Option Addr) (c : Nat) (l : List Rq) (w : World) (gm : GM w) (h : Rqs w w.heap.size a c l) :
    Calls Tryz.prog 19 #[.slice a l.length c] w (RunPost l w) := by
  by_cases hl : 60 < l.length
  · exact runMany_any a c l w hl h.len
  have H := Lib.hid h
  have GMH := Lib.hid gm
  have hl2 : l.length ≤ 60 := by omega
  have hz : ¬ (60 : Int) < (l.length : Int) := by omega
  have HP1 := Lib.hid (show ∀ e w' (cc ci : Int), rqsC l = (cc, ci) → cc ≠ 0 → Below w.heap.size w w' → e = .returned (.tuple #[.agg #[.slice none 0 0], .slice none 0 0, .agg #[.int .i64 cc, .int .i64 ci]]) → RunPost l w e w' from fun e w' cc ci h0 h9 h1 h2 => ⟨h1, by rw [if_neg hl, h0, if_pos h9]; exact h2⟩)
  have HP2 := Lib.hid (show rqsC l = (0, 0) → ∀ e w', Below w.heap.size w w' → (∃ g cap sl R, e = .returned (.tuple #[.agg #[.slice (some ⟨g, 0, none⟩) (runF T0 l).1.length cap], .slice (some ⟨R, 0, none⟩) l.length l.length, .agg #[.int .i64 0, .int .i64 0]]) ∧ OT w' w.heap.size g cap sl (runF T0 l).1 ∧ w.heap.size ≤ R ∧ R < w'.heap.size ∧ Rps w' w.heap.size R (runF T0 l).2) → RunPost l w e w' from fun h0 e w' h1 h2 => ⟨h1, by rw [if_neg hl, h0, if_neg (by simp)]; exact h2⟩)
  have A0 := Lib.hid (R2.new w)
  clear h gm hl
  go_enter Tryz.func19, Tryz.ntmps19
  go_upto_region 3 with fail
  generalize ((w.alloc (.cells #[.slice none 0 0] 24)).alloc (.cells #[.int .i64 0, .int .i64 0] 37)) = w2 at *
  generalize w.heap.size + 1 = N at *
  go_wp2_with fail
  go_loopg [5, 6, 7, 19] l.length (fun gg _ _ _ s19 wr => ∃ i : Nat, i ≤ l.length ∧ l.length - i ≤ gg ∧ s19 = .int .i64 i ∧ Aside (R2 w wr w.heap.size N) ∧ Aside (∀ j, j < i → rqC (l.getD j R0) = 0))
  case atStart => exact ⟨0, by omega, by omega, rfl, A0.out, fun j hj => absurd hj (Nat.not_lt_zero _)⟩
  case round =>
    obtain ⟨i, hi, hg, rfl, I, AL⟩ := hrel
    by_cases hlt : i < l.length
    · have hltz : (i : Int) < (l.length : Int) := by omega
      have hi0 : (0 : Int) ≤ (i : Int) := Int.natCast_nonneg _
      obtain ⟨b, o, rfl, hb, hj⟩ := (H.out.up I.out.b).at_ (by omega)
      obtain ⟨vd, va, hc, hs⟩ := hj i hlt
      obtain ⟨qa, qc, rfl, hqd⟩ := id hs.d
      obtain ⟨pa, pc, rfl, hpd⟩ := id hs.ac
      clear hqd hpd
      have hm9 : l.length - (i + 1) < l.length - i := Nat.sub_lt_sub_left hlt (Nat.lt_succ_self i)
      obtain ⟨c0, c1, c2, c3, c4, c5, c6, c7, c8, c9⟩ := hc
      have HQ := Lib.hid (show (l.getD i R0) = (l.getD i R0) from rfl)
      have GR := Lib.hid (GMH.out.below I.out.b)
      generalize hr : l.getD i R0 = r at *
      have B1 := Lib.hid ((Below.refl wr.heap.size wr).alloc (Nat.le_refl _) (.cells #[.int .i64 r.k, .int .i64 r.u, .string r.p, .string r.t, .int .i64 r.off, .int .i64 r.sz, .slice qa r.d.length qc, .slice pa r.ac.length pc, .string r.a.n, .string r.a.v] 30))
      have CQ := Lib.hid (validateRequest_any r (.slice qa r.d.length qc) (.slice pa r.ac.length pc) _ (GR.out.below B1.out) (hs.up B1.out))
      unfold faultV rqV at CQ
      have I1 := Lib.hid (I.out.up B1.out)
      have HR := Lib.hid hr
      clear hj hs hr HQ
      by_cases hq : rqC r = 0
      · have HQ0 := Lib.hid hq
        rw [hq] at CQ
        clear hq
        go_wp2_with fail
        refine CQ.out.mono ?_
        rintro e w3 ⟨rfl, b3⟩
        have I3 := Lib.hid ((I1.out.up b3).up ((Below.refl w3.heap.size w3).alloc (Nat.le_refl _) (.cells #[.int .i64 0, .int .i64 0] 37)))
        clear b3
        go_wp2
        go_roundg (l.length - (i + 1))
        case measure => exact Nat.lt_of_lt_of_le hm9 hg
        case rel =>
          refine ⟨i + 1, by omega, by omega, by go_num, I3.out, (show Aside _ from fun j hj => ?_)⟩
          by_cases e : j = i
          · subst e; rw [HR.out]; exact HQ0.out
          · exact AL.out j (by omega)
      · have HB := Lib.hid (show rqsC l = (rqC r, (i : Int)) from by rw [← HR.out]; exact rqsC_bad hlt (by rw [HR.out]; exact hq) AL.out)
        have HQ1 := Lib.hid hq
        generalize rqC r = vc at *
        have hcc : (vc != 0) = true := by simpa using hq
        clear hq
        go_wp2_with fail
        refine CQ.out.mono ?_
        rintro e w3 ⟨rfl, b3⟩
        have I3 := Lib.hid ((I1.out.up b3).up ((Below.refl w3.heap.size w3).alloc (Nat.le_refl _) (.cells #[.int .i64 vc, .int .i64 0] 37)))
        have HF := Lib.hid (FBox.new w3 vc 0 37)
        have hC := (I1.out.up b3).f.lt
        clear b3
        go_upto_region 8 with fail
        obtain ⟨fl, f0, f1, _, _⟩ := HF.out
        generalize w3.alloc (.cells #[.int .i64 vc, .int .i64 0] 37) = w4 at *
        generalize w3.heap.size = C at *
        have S := Lib.hid (I3.out.store (.slice none 0 0) (.int .i64 vc) (.int .i64 (i : Int)))
        have q2 := I3.out.o.c 0 _ rfl
        have qf2 := I3.out.o.f 0 (by decide)
        have l2 := I3.out.o.lt
        have s0 := I3.out.f.c 0 _ rfl
        have s1 := I3.out.f.c 1 _ rfl
        have sf0 := I3.out.f.f 0 (by decide)
        have sf1 := I3.out.f.f 1 (by decide)
        have l4 := I3.out.f.lt
        have hBN := I3.out.l
        have dBN : w.heap.size ≠ N := Nat.ne_of_lt hBN
        have dC1 : C ≠ N := Nat.ne_of_gt hC
        have dC2 : C ≠ w.heap.size := Nat.ne_of_gt (Nat.lt_trans hBN hC)
        go_region
        all_goals
          go_wp2
          generalize hw : World.setCell _ ⟨N, 1, none⟩ _ = wz at *
          obtain ⟨SB, SO, SF⟩ := S.out
          have y2 := SO.c 0 _ rfl
          have z0 := SF.c 0 _ rfl
          have z1 := SF.c 1 _ rfl
          exact bodyPost_ret (v := .tuple #[.agg #[.slice none 0 0], .slice none 0 0, .agg #[.int .i64 vc, .int .i64 (i : Int)]]) (by simp [results, Tryz.results19, go_sem, y2, z0, z1]) rfl (HP1.out _ _ _ _ HB.out HQ1.out SB.drew rfl)
    · obtain rfl : i = l.length := by omega
      have HP := Lib.hid (HP2.out (rqsC_ok AL.out))
      have HQA := Lib.hid AL.out
      have hmk := make_replies l.length hl2
      have hN := I.out.f.lt
      clear AL
      go_upto_region 12 with fail
      have J0 : Hid (∃ g cap sl, RunI w (((wr.alloc (.cells #[.int .i64 1, .int .i64 0, .slice none 0 0, .slice none 0 0, .slice none 0 0, .slice none 0 0, .int .i64 0, .int .i64 0] 63)).alloc (.cells #[.slice (some ⟨wr.heap.size, 0, none⟩) 1 1] 24)).alloc (.cells (madeCells #[.int .i64 0, .slice none 0 0, .slice none 0 0, .int .i64 0, .int .i64 0, .int .i64 0, .int .i64 0, .int .i64 0, .int .i64 0] (l.length * 9)) 35)) N (wr.heap.size + 1) (wr.heap.size + 1 + 1) (l.length * 9) g cap sl (runF T0 (l.take 0)).1 (runF T0 (l.take 0)).2) := Lib.hid
        ⟨_, _, _, ((I.out.up ((Below.refl _ _).alloc (Nat.le_refl _) _)).up ((Below.refl _ _).alloc (Nat.le_refl _) _)).up ((Below.refl _ _).alloc (Nat.le_refl _) _),
          ((Blk.new (wr.alloc _) [.slice (some ⟨wr.heap.size, 0, none⟩) 1 1] 24).at_ (by simp)).alloc _, ((ot_first wr (N + 1) hN).up ((Below.refl _ _).alloc (Nat.le_refl _) _)).up ((Below.refl _ _).alloc (Nat.le_refl _) _),
          by have := rowE_new ((wr.alloc (.cells #[.int .i64 1, .int .i64 0, .slice none 0 0, .slice none 0 0, .slice none 0 0, .slice none 0 0, .int .i64 0, .int .i64 0] 63)).alloc (.cells #[.slice (some ⟨wr.heap.size, 0, none⟩) 1 1] 24)) #[.int .i64 0, .slice none 0 0, .slice none 0 0, .int .i64 0, .int .i64 0, .int .i64 0, .int .i64 0, .int .i64 0, .int .i64 0] (l.length * 9) 35 (by simp); simpa using this,
          fun j hj => absurd hj (Nat.not_lt_zero _), by omega, by omega, by simp⟩
      generalize (((wr.alloc (.cells #[.int .i64 1, .int .i64 0, .slice none 0 0, .slice none 0 0, .slice none 0 0, .slice none 0 0, .int .i64 0, .int .i64 0] 63)).alloc (.cells #[.slice (some ⟨wr.heap.size, 0, none⟩) 1 1] 24)).alloc (.cells (madeCells #[.int .i64 0, .slice none 0 0, .slice none 0 0, .int .i64 0, .int .i64 0, .int .i64 0, .int .i64 0, .int .i64 0, .int .i64 0] (l.length * 9)) 35)) = w5 at *
      generalize wr.heap.size + 1 + 1 = R at *
      generalize wr.heap.size + 1 = T8 at *
      clear hmk
      go_wp2_with fail
      go_loopg [10, 11, 43, 48] l.length (fun gg _ _ s43 _ wq => ∃ i : Nat, i ≤ l.length ∧ l.length - i ≤ gg ∧ s43 = .int .i64 i ∧ Aside (∃ g cap sl, RunI w wq N T8 R (l.length * 9) g cap sl (runF T0 (l.take i)).1 (runF T0 (l.take i)).2))
      case atStart => exact ⟨0, by omega, by omega, rfl, J0.out⟩
      case round =>
        obtain ⟨q, hq, hg2, rfl, J⟩ := hrel
        clear J0
        obtain ⟨g, cap, sl, hJ⟩ := J.out
        have JJ := Lib.hid hJ
        clear hJ J
        obtain ⟨w6, rfl⟩ : ∃ w6 : World, w6 = wr := ⟨_, rfl⟩
        by_cases hlt : q < l.length
        · have hltz : (q : Int) < (l.length : Int) := by omega
          have hi0 : (0 : Int) ≤ (q : Int) := Int.natCast_nonneg _
          have hm9 : l.length - (q + 1) < l.length - q := Nat.sub_lt_sub_left hlt (Nat.lt_succ_self q)
          obtain ⟨b, o, rfl, hb, hj⟩ := (H.out.up JJ.out.r2.b).at_ (by omega)
          obtain ⟨vd, va, hc, hs⟩ := hj q hlt
          obtain ⟨qa, qc, rfl, hqd⟩ := id hs.d
          obtain ⟨pa, pc, rfl, hpd⟩ := id hs.ac
          clear hqd hpd
          obtain ⟨c0, c1, c2, c3, c4, c5, c6, c7, c8, c9⟩ := hc
          have hrq := HQA.out q hlt
          have HTK := Lib.hid (take_run hlt T0)
          have hpl : (runF T0 (l.take q)).2.length = q := by rw [run_len, List.length_take]; omega
          have hval := run_valid (l.take q) t0_valid
          generalize hr : l.getD q R0 = r at *
          generalize hT : runF T0 (l.take q) = TP at *
          obtain ⟨t, ps⟩ := TP
          simp only at hpl hval
          have B1 := Lib.hid ((Below.refl w6.heap.size w6).alloc (Nat.le_refl _) (.cells #[.int .i64 r.k, .int .i64 r.u, .string r.p, .string r.t, .int .i64 r.off, .int .i64 r.sz, .slice qa r.d.length qc, .slice pa r.ac.length pc, .string r.a.n, .string r.a.v] 30))
          have CA := Lib.hid (applyOk_any (some ⟨g, 0, none⟩) cap t r (.slice qa r.d.length qc) (.slice pa r.ac.length pc) _ ((GMH.out.below JJ.out.r2.b).below B1.out) (JJ.out.ot.fnods.up B1.out) (hs.up B1.out) hval hrq)
          unfold rqV rpV at CA
          have J1 := Lib.hid (JJ.out.up B1.out)
          clear hj hs hr hT hval hrq
          have t0 := J1.out.tb.c 0 _ rfl
          have tl := J1.out.tb.lt
          generalize applyF t r = AF at *
          obtain ⟨t', p⟩ := AF
          simp only at CA HTK
          have hqm : (ps.length + 1) * 9 ≤ l.length * 9 := by omega
          go_wp2_with fail
          refine CA.out.mono ?_
          rintro e z ⟨hbz, g', cap', sl', vd', vn', rfl, ho', hs'⟩
          obtain ⟨da, dc, rfl, hda⟩ := id hs'.d
          obtain ⟨na, nc, rfl, hna⟩ := id hs'.ns
          clear hda hna
          have JN := Lib.hid (J1.out.next hbz (Nat.le_refl _) ho' hs' hqm)
          have JZ := Lib.hid (J1.out.up hbz)
          clear hbz ho' hs' t0 tl
          have t1 := JZ.out.tb.c 0 _ rfl
          have tf := JZ.out.tb.f 0 (by simp)
          have tl := JZ.out.tb.lt
          have hl3 := JZ.out.l3
          have hTR : T8 ≠ R := Nat.ne_of_lt JZ.out.l2
          have RZ := Lib.hid (JZ.out.row)
          obtain ⟨x0, h0⟩ := RZ.out.c (q * 9) (by omega)
          obtain ⟨x1, h1⟩ := RZ.out.c (q * 9 + 1) (by omega)
          obtain ⟨x2, h2⟩ := RZ.out.c (q * 9 + 2) (by omega)
          obtain ⟨x3, h3⟩ := RZ.out.c (q * 9 + 3) (by omega)
          obtain ⟨x4, h4⟩ := RZ.out.c (q * 9 + 4) (by omega)
          obtain ⟨x5, h5⟩ := RZ.out.c (q * 9 + 5) (by omega)
          obtain ⟨x6, h6⟩ := RZ.out.c (q * 9 + 6) (by omega)
          obtain ⟨x7, h7⟩ := RZ.out.c (q * 9 + 7) (by omega)
          obtain ⟨x8, h8⟩ := RZ.out.c (q * 9 + 8) (by omega)
          have e0 := RZ.out.f (q * 9)
          have e1 := RZ.out.f (q * 9 + 1)
          have e2 := RZ.out.f (q * 9 + 2)
          have e3 := RZ.out.f (q * 9 + 3)
          have e4 := RZ.out.f (q * 9 + 4)
          have e5 := RZ.out.f (q * 9 + 5)
          have e6 := RZ.out.f (q * 9 + 6)
          have e7 := RZ.out.f (q * 9 + 7)
          have e8 := RZ.out.f (q * 9 + 8)
          rw [hpl] at JN
          go_wp2
          go_roundg (l.length - (q + 1))
          case measure => exact Nat.lt_of_lt_of_le hm9 hg2
          case rel => exact ⟨q + 1, by omega, by omega, by go_num, g', cap', sl', by rw [HTK.out]; exact JN.out⟩
        · obtain rfl : q = l.length := by omega
          have hTA : l.take l.length = l := List.take_length
          rw [hTA] at JJ
          have S := Lib.hid (JJ.out.r2.store (.slice (some ⟨g, 0, none⟩) (runF T0 l).1.length cap) (.int .i64 0) (.int .i64 0))
          have F := Lib.hid (JJ.out.fin)
          have t0 := JJ.out.tb.c 0 _ rfl
          have tl := JJ.out.tb.lt
          have q2 := JJ.out.r2.o.c 0 _ rfl
          have qf2 := JJ.out.r2.o.f 0 (by decide)
          have l2 := JJ.out.r2.o.lt
          have s0 := JJ.out.r2.f.c 0 _ rfl
          have s1 := JJ.out.r2.f.c 1 _ rfl
          have sf0 := JJ.out.r2.f.f 0 (by decide)
          have sf1 := JJ.out.r2.f.f 1 (by decide)
          have l4 := JJ.out.r2.f.lt
          have dBN : w.heap.size ≠ N := Nat.ne_of_lt JJ.out.r2.l
          clear hTA
          go_wp2
          generalize hw : World.setCell _ ⟨N, 1, none⟩ _ = wz at *
          obtain ⟨SB, SO, SF⟩ := S.out
          obtain ⟨F1, F2, F3, F4⟩ := F.out
          have y2 := SO.c 0 _ rfl
          have z0 := SF.c 0 _ rfl
          have z1 := SF.c 1 _ rfl
          exact bodyPost_ret (v := .tuple #[.agg #[.slice (some ⟨g, 0, none⟩) (runF T0 l).1.length cap], .slice (some ⟨R, 0, none⟩) l.length l.length, .agg #[.int .i64 0, .int .i64 0]]) (by simp [results, Tryz.results19, go_sem, y2, z0, z1]) rfl (HP.out _ _ SB ⟨g, cap, sl, R, rfl, F1, F2, F3, F4⟩)

end Go.Proofs.YtmbbmmnpkdfecaaGreatDoor
