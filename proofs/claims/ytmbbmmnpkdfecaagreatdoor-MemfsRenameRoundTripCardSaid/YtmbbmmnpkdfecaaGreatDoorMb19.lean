/- Package memfs and what it calls, at this seat's translation.
   Condition: as each theorem states; this text: MfCreate. -/
import Derived.Test.YtmbbmmnpkdfecaaGreatDoorMb18
import Derived.Laws.AppendOwn

set_option linter.all false

/- create: a new inode with its entry. Conditions: the execution is the call's own; the tree passes the first checks; versions lie in their range; the kind's number is a machine's. -/

set_option linter.all false
namespace Go.Proofs.YtmbbmmnpkdfecaaGreatDoor
open Go.RowKit

theorem ino_info : (Tryz.prog.info? 63).map (fun i => (i.zero, i.size, i.bytes)) = some (some (.agg #[.int .i64 0, .int .i64 0, .slice none 0 0, .slice none 0 0, .slice none 0 0, .slice none 0 0, .int .i64 0, .int .i64 0]), 8, 128) := by kernel_rfl
theorem set_last {α : Type} (t : List α) (x y : α) : (t ++ [x]).set t.length y = t ++ [y] := by
  rw [List.set_append_right _ _ (Nat.le_refl _)]; simp
theorem newT_old {t : FT} (h : freN t < t.length) (k u : Int) : newT t k u = t.set (freN t) { I0 with k := k, o := u } := by unfold newT; rw [if_pos h]
theorem newT_end {t : FT} (h : ¬ freN t < t.length) (k u : Int) : newT t k u = (t ++ [I0]).set (freN t) { I0 with k := k, o := u } := by
  have e : freN t = t.length := by have := freN_le t; omega
  unfold newT; rw [if_neg h, e, set_last]

/-- append(x.tree.Inodes, api.Inode{}), and the store of what it returns. -/
theorem wpList_append_inode {w : World} {ops : Array Oper} {rest : List Oper} {o : Oper} {a : Act} {Q : Exit → Act → World → Prop} (hgd : o.guard = none) (s x : Operand)
    (ho : o.op = .call { callee := .builtin .append, args := #[s, x], argTypes := #[22, 22] })
    {base X g cap : Nat} {sl : Nat → Sl} {t : FT} {r : Rq} {vd va : Value} (h : XO w base X g cap sl t r vd va) (hl : t.length < 40) (hs : a.eval s = .slice (some ⟨g, 0, none⟩) t.length cap)
    (B : Nat) (hx : a.eval x = .slice (some ⟨B, 0, none⟩) 1 1) (hB : ∀ j u, (inoL I0 nilSl)[j]? = some u → w.cell? ⟨B, j, none⟩ = some u)
    (k : ∀ g' cap' w1, w1.cell? ⟨X, 0, none⟩ = some (.slice (some ⟨g, 0, none⟩) t.length cap) → w1.frozen? ⟨X, 0, none⟩ = false →
      XO (w1.setCell ⟨X, 0, none⟩ (.slice (some ⟨g', 0, none⟩) (t.length + 1) cap')) base X g' cap' (upd sl t.length nilSl) (t ++ [I0]) r vd va → Below base w (w1.setCell ⟨X, 0, none⟩ (.slice (some ⟨g', 0, none⟩) (t.length + 1) cap')) → Typ w (w1.setCell ⟨X, 0, none⟩ (.slice (some ⟨g', 0, none⟩) (t.length + 1) cap')) →
      wpList Tryz.prog ops Q rest (a.put o.dst (.slice (some ⟨g', 0, none⟩) (t.length + 1) cap')) w1) : wpList Tryz.prog ops Q (o :: rest) a w := by
  obtain ⟨i0, hi, hz0, hz1, hz2⟩ := info_parts ino_info
  obtain ⟨cs, hcs⟩ := h.ot.own
  refine wpList_append_own w hgd s x 22 ho base 63 i0 _ 8 128 Tryz.underlying22 hi hz0 hz1 hz2 rfl (by omega) _ t.length cs hs hcs ⟨B, 0, none⟩ 1 1 (inoL I0 nilSl) hx rfl (by
    intro j u hu
    have hadd : (⟨B, 0, none⟩ : Addr).add j = ⟨B, j, none⟩ := by unfold Addr.add; split <;> simp_all
    rw [hadd]
    exact hB j u hu) (by
    intro u hu
    simp only [inoL, nilSl, nilS, List.mem_cons, List.not_mem_nil, or_false] at hu
    rcases hu with rfl | rfl | rfl | rfl | rfl | rfl | rfl | rfl <;> rfl) (by unfold maxLen; omega) (by omega) h.base.1 fun v' w1 h1 h2 _ => ?_
  obtain ⟨g', cap', rfl, h3, h4, h5, h6, h7⟩ := h.grow hl hcs h1 h2
  exact k g' cap' w1 h3 h4 h5 h6 h7

theorem XO.blank2 {w : World} {base X g cap : Nat} {sl : Nat → Sl} {t : FT} {r : Rq} {vd va : Value} (h : XO w base X g cap sl t r vd va) {j : Nat} (hj : j < t.length) (K O : Int) (hK : i64 K) (hO : i64 O) :
    MutP base X r vd va (t.set j { I0 with k := K, o := O }) w ((((((((w.setCell ⟨g, j * 8, none⟩ (.int .i64 K)).setCell ⟨g, j * 8 + 1, none⟩ (.int .i64 O)).setCell ⟨g, j * 8 + 2, none⟩ (.slice none 0 0)).setCell ⟨g, j * 8 + 3, none⟩ (.slice none 0 0)).setCell ⟨g, j * 8 + 4, none⟩ (.slice none 0 0)).setCell ⟨g, j * 8 + 5, none⟩ (.slice none 0 0)).setCell ⟨g, j * 8 + 6, none⟩ (.int .i64 0)).setCell ⟨g, j * 8 + 7, none⟩ (.int .i64 0)).drew :=
  (h.blank hj K O hK hO).drew

set_option maxRecDepth 100000 in
set_option maxHeartbeats 6400000 in
theorem create_any (base X g cap : Nat) (sl : Nat → Sl) (t : FT) (r : Rq) (vd va : Value) (kind : Int) (w : World) (h : XO w base X g cap sl t r vd va) (gm : GM w) (h1 : Ok1 (tr t)) (hv : VerOk t) (hk : i64 kind) :
    Calls Tryz.prog 66 #[.pointer (some ⟨X, 0, none⟩), .int .i64 kind] w fun e w' =>
      e = .returned (.tuple #[.int .i64 (mkF t r kind).1.1, .int .i64 (mkF t r kind).1.2]) ∧ MutP base X r vd va (mkF t r kind).2 w w' := by
  have H := Lib.hid h
  have hp := h.rq.p
  have CR := Lib.hid (mustBeVacant_any X g cap t r vd va r.p w ⟨gm, hp, h.xr, h1⟩)
  have x3 := h.xr.b.c 3 _ rfl
  have xl := h.xr.b.lt
  by_cases hc : (vacantF t r.u r.p).2 = 0
  · have hpar := vacant_par h1 r.u r.p
    have hnm := Nat.le_trans (vacant_name t r.u r.p) hp
    have hsr := ok_srt h1 (vacantF t r.u r.p).1.p
    have hln := ok_len h1 (vacantF t r.u r.p).1.p
    have hnl := newT_len t kind r.u
    have hfl := freN_le t
    have h40 := h.len
    have hu := h.rq.u
    have HQ := Lib.hid (show mkF t r kind = if (ino t (vacantF t r.u r.p).1.p).es.length = 16 then ((0, 2), t) else if freN t = 40 then ((0, 14), t) else (((freN t : Int), 0), touchF (addF (newT t kind r.u) (vacantF t r.u r.p).1.p ⟨(vacantF t r.u r.p).1.n, (freN t : Int)⟩) (vacantF t r.u r.p).1.p) by
      unfold mkF; rw [if_neg (by simpa using hc)])
    have CF := Lib.hid (fun (Z : World) (hZ : Below w.heap.size w Z) => isFull_any X g cap t r vd va (vacantF t r.u r.p).1.p Z (h.up hZ).xr hpar)
    have CI := Lib.hid (fun (Z : World) (hZ : Below w.heap.size w Z) => idxFree_any X g cap t r vd va Z (h.up hZ).xr)
    have hp2 : (vacantF t r.u r.p).1.p < (newT t kind r.u).length := by omega
    have hE : SrtE (ino (newT t kind r.u) (vacantF t r.u r.p).1.p).es ∧ (ino (newT t kind r.u) (vacantF t r.u r.p).1.p).es.length ≤ 900 := by
      rw [ino_newT]
      split
      · exact ⟨List.Pairwise.nil, Nat.zero_le _⟩
      · exact ⟨hsr, by omega⟩
    have hv2 := (hv.newT kind r.u).add hp2 ⟨(vacantF t r.u r.p).1.n, (freN t : Int)⟩
    have CA := Lib.hid (fun (Z : World) g' cap' sl' (hZ : XO Z base X g' cap' sl' (newT t kind r.u) r vd va) => addEntry_any base X g' cap' sl' _ r vd va (vacantF t r.u r.p).1 (freN t : Int) Z hZ hp2 hE.1 hE.2 ⟨hnm, show i64 (freN t : Int) by unfold i64; omega⟩)
    have CT := Lib.hid (fun (Z : World) g' cap' sl' (hZ : XO Z base X g' cap' sl' (addF (newT t kind r.u) (vacantF t r.u r.p).1.p ⟨(vacantF t r.u r.p).1.n, (freN t : Int)⟩) r vd va) => touch_any base X g' cap' sl' _ r vd va (vacantF t r.u r.p).1.p Z hZ (by rw [addF_len]; exact hp2) (hv2 _ (by rw [addF_len]; exact hp2)))
    have x0 := h.xr.b.c 0 _ rfl
    have x2 := h.xr.b.c 2 _ rfl
    have HF1 := Lib.hid (show freN t < t.length → freI t = (freN t : Int) ∧ newT t kind r.u = t.set (freN t) { I0 with k := kind, o := r.u } from fun h9 => ⟨by unfold freI; rw [if_pos h9], newT_old h9 kind r.u⟩)
    have HF2 := Lib.hid (show ¬ freN t < t.length → freI t = -1 ∧ freN t = t.length ∧ newT t kind r.u = (t ++ [I0]).set (freN t) { I0 with k := kind, o := r.u } from fun h9 => ⟨by unfold freI; rw [if_neg h9], by omega, newT_end h9 kind r.u⟩)
    rw [hc] at CR
    generalize mkF t r kind = Q at *
    generalize touchF (addF (newT t kind r.u) (vacantF t r.u r.p).1.p ⟨(vacantF t r.u r.p).1.n, (freN t : Int)⟩) (vacantF t r.u r.p).1.p = t4 at *
    generalize addF (newT t kind r.u) (vacantF t r.u r.p).1.p ⟨(vacantF t r.u r.p).1.n, (freN t : Int)⟩ = t3 at *
    generalize newT t kind r.u = t2 at *
    clear h gm h1 hv hc hpar hnm hsr hln hnl hp hp2 hE hv2
    generalize (vacantF t r.u r.p).1 = a at *
    generalize freN t = n at *
    generalize freI t = fi at *
    obtain ⟨ap, an, ai⟩ := a
    unfold plV at *
    simp only at *
    by_cases hfl2 : (ino t ap).es.length = 16
    · have hq : Q = ((0, 2), t) := by rw [HQ.out, if_pos hfl2]
      subst hq
      have hd : decide ((ino t ap).es.length = 16) = true := by simpa using hfl2
      rw [hd] at CF
      clear hd hfl2 HQ CA CT CI HF1 HF2
      go_enter Tryz.func66, Tryz.ntmps66
      go_wp2_with fail
      refine CR.out.mono ?_
      rintro e w1 ⟨rfl, b1⟩
      have B3 := Lib.hid (b1.alloc b1.size (.cells #[.int .i64 (ap : Int), .string an, .int .i64 ai] 160))
      clear b1
      go_wp2_with fail
      refine (CF.out _ B3.out).mono ?_
      rintro e w4 ⟨rfl, rfl⟩
      go_wp2
      go_ret2
      exact ⟨rfl, g, cap, sl, H.out.up B3.out, B3.out.mono H.out.base.1, Typ.of_below B3.out⟩
    · have hd : decide ((ino t ap).es.length = 16) = false := by simpa using hfl2
      rw [hd] at CF
      by_cases hlt : n < t.length
      · obtain ⟨hfi, ht2⟩ := HF1.out hlt
        have hq : Q = (((n : Int), 0), t4) := by rw [HQ.out, if_neg hfl2, if_neg (by omega)]
        subst hq
        subst hfi
        have hn0 : (0 : Int) ≤ (n : Int) := Int.natCast_nonneg _
        have nz : (n : Int) < (t.length : Int) := by omega
        clear hd hfl2 HQ HF1 HF2
        go_enter Tryz.func66, Tryz.ntmps66
        go_wp2_with fail
        refine CR.out.mono ?_
        rintro e w1 ⟨rfl, b1⟩
        have B3 := Lib.hid (b1.alloc b1.size (.cells #[.int .i64 (ap : Int), .string an, .int .i64 ai] 160))
        have HK3 := Lib.hid (PlB.new w1 ⟨ap, an, ai⟩)
        clear b1
        go_wp2_with fail
        refine (CF.out _ B3.out).mono ?_
        rintro e w4 ⟨rfl, rfl⟩
        generalize w1.alloc (.cells #[.int .i64 (ap : Int), .string an, .int .i64 ai] 160) = w3 at *
        generalize w1.heap.size = A at *
        have y0 := (B3.out.cell (p := ⟨X, 0, none⟩) xl).trans x0
        go_wp2_with fail
        refine (CI.out _ B3.out).mono ?_
        rintro e w4 ⟨rfl, b4⟩
        have B4 := Lib.hid (B3.out.trans (b4.mono B3.out.size))
        have HK4 := Lib.hid (HK3.out.up b4)
        have HX4 := Lib.hid (H.out.up B4.out)
        have z0 := (B4.out.cell (p := ⟨X, 0, none⟩) xl).trans x0
        have z2 := (B4.out.cell (p := ⟨X, 2, none⟩) xl).trans x2
        have HB4 := Lib.hid (show Below base w w4 ∧ Typ w w4 from ⟨B4.out.mono H.out.base.1, Typ.of_below B4.out⟩)
        clear b4 y0
        have hneg : ¬ (n : Int) < 0 := by omega
        go_upto_region 12 with fail
        have i0 : w4.cell? ⟨g, n * 8, none⟩ = some (.int .i64 (ino t n).k) := HX4.out.ot.c n hlt 0 _ rfl
        have i1 := HX4.out.ot.c n hlt 1 _ rfl
        have i2 := HX4.out.ot.c n hlt 2 _ rfl
        have i3 := HX4.out.ot.c n hlt 3 _ rfl
        have i4 := HX4.out.ot.c n hlt 4 _ rfl
        have i5 := HX4.out.ot.c n hlt 5 _ rfl
        have i6 := HX4.out.ot.c n hlt 6 _ rfl
        have i7 := HX4.out.ot.c n hlt 7 _ rfl
        have f0 := HX4.out.ot.frozen (n * 8)
        have f1 := HX4.out.ot.frozen (n * 8 + 1)
        have f2 := HX4.out.ot.frozen (n * 8 + 2)
        have f3 := HX4.out.ot.frozen (n * 8 + 3)
        have f4 := HX4.out.ot.frozen (n * 8 + 4)
        have f5 := HX4.out.ot.frozen (n * 8 + 5)
        have f6 := HX4.out.ot.frozen (n * 8 + 6)
        have f7 := HX4.out.ot.frozen (n * 8 + 7)
        have hgl4 := HX4.out.base.2.2.1
        have hag := (HX4.out.apart HK4.out).1
        obtain ⟨pl, p0, p1, p2, pf0, pf1, pf2⟩ := HK4.out.pb
        simp only at p0 p1 p2
        obtain ⟨g5, cap5, sl5, hx5, hb5, ht5⟩ := HX4.out.blank2 (j := n) hlt kind r.u hk hu
        rw [← ht2] at hx5
        have HX5 := Lib.hid hx5
        have HB5 := Lib.hid (show Below base w _ ∧ Typ w _ from ⟨HB4.out.1.trans hb5, HB4.out.2.trans ht5⟩)
        have HK5 := Lib.hid (HK4.out.typ ht5)
        clear hx5 hb5 ht5 ht2
        go_region
        all_goals
          go_wp2_with fail
          refine (CA.out _ _ _ _ HX5.out).mono ?_
          rintro e w6 ⟨rfl, g6, cap6, sl6, hx6, hb6, ht6⟩
          have HX6 := Lib.hid hx6
          have HB6 := Lib.hid (show Below base w w6 ∧ Typ w w6 from ⟨HB5.out.1.trans hb6, HB5.out.2.trans ht6⟩)
          obtain ⟨ul, u0, u1, u2, _, _, _⟩ := (HK5.out.typ ht6).pb
          simp only at u0 u1 u2
          clear hx6 hb6 ht6
          go_wp2_with fail
          refine (CT.out _ _ _ _ HX6.out).mono ?_
          rintro e w7 ⟨rfl, g7, cap7, sl7, hx7, hb7, ht7⟩
          have HM := Lib.hid (show MutP base X r vd va t4 w w7 from ⟨g7, cap7, sl7, hx7, HB6.out.1.trans hb7, HB6.out.2.trans ht7⟩)
          clear hx7 hb7 ht7
          go_wp2
          go_ret2
          exact ⟨rfl, HM.out⟩
      · obtain ⟨hfi, hnl, ht2⟩ := HF2.out hlt
        subst hfi
        by_cases h9 : n = 40
        · have hq : Q = ((0, 14), t) := by rw [HQ.out, if_neg hfl2, if_pos h9]
          subst hq
          have hz : ((t.length : Int) == 40) = true := by rw [← hnl, h9]; rfl
          clear hd hfl2 HQ HF1 HF2 CA CT
          go_enter Tryz.func66, Tryz.ntmps66
          go_wp2_with fail
          refine CR.out.mono ?_
          rintro e w1 ⟨rfl, b1⟩
          have B3 := Lib.hid (b1.alloc b1.size (.cells #[.int .i64 (ap : Int), .string an, .int .i64 ai] 160))
          clear b1
          go_wp2_with fail
          refine (CF.out _ B3.out).mono ?_
          rintro e w4 ⟨rfl, rfl⟩
          generalize w1.alloc (.cells #[.int .i64 (ap : Int), .string an, .int .i64 ai] 160) = w3 at *
          generalize w1.heap.size = A at *
          have y0 := (B3.out.cell (p := ⟨X, 0, none⟩) xl).trans x0
          go_wp2_with fail
          refine (CI.out _ B3.out).mono ?_
          rintro e w4 ⟨rfl, b4⟩
          have B4 := Lib.hid (B3.out.trans (b4.mono B3.out.size))
          have z0 := (B4.out.cell (p := ⟨X, 0, none⟩) xl).trans x0
          clear b4 y0
          go_wp2
          go_ret2
          exact ⟨rfl, g, cap, sl, H.out.up B4.out, B4.out.mono H.out.base.1, Typ.of_below B4.out⟩
        · have hq : Q = (((n : Int), 0), t4) := by rw [HQ.out, if_neg hfl2, if_neg h9]
          subst hq
          have h39 : t.length < 40 := by omega
          subst hnl
          have hz : ((t.length : Int) == 40) = false := by rw [beq_eq_false_iff_ne]; omega
          have hn0 : (0 : Int) ≤ (t.length : Int) := Int.natCast_nonneg _
          have nz : (t.length : Int) < (t.length : Int) + 1 := by omega
          have hl1 : t.length < (t ++ [I0]).length := by simp
          clear hd hfl2 HQ HF1 HF2 h9
          go_enter Tryz.func66, Tryz.ntmps66
          go_wp2_with fail
          refine CR.out.mono ?_
          rintro e w1 ⟨rfl, b1⟩
          have B3 := Lib.hid (b1.alloc b1.size (.cells #[.int .i64 (ap : Int), .string an, .int .i64 ai] 160))
          have HK3 := Lib.hid (PlB.new w1 ⟨ap, an, ai⟩)
          clear b1
          go_wp2_with fail
          refine (CF.out _ B3.out).mono ?_
          rintro e w4 ⟨rfl, rfl⟩
          generalize w1.alloc (.cells #[.int .i64 (ap : Int), .string an, .int .i64 ai] 160) = w3 at *
          generalize w1.heap.size = A at *
          have y0 := (B3.out.cell (p := ⟨X, 0, none⟩) xl).trans x0
          go_wp2_with fail
          refine (CI.out _ B3.out).mono ?_
          rintro e wi ⟨rfl, bi⟩
          have B4 := Lib.hid (B3.out.trans (bi.mono B3.out.size))
          have B5 := Lib.hid (B4.out.alloc B4.out.size (.cells #[.int .i64 0, .int .i64 0, .slice none 0 0, .slice none 0 0, .slice none 0 0, .slice none 0 0, .int .i64 0, .int .i64 0] 63))
          have HXa := Lib.hid (H.out.up B5.out)
          have HKa := Lib.hid (PlB.up (w := wi) (HK3.out.up bi) ((Below.refl _ _).alloc (Nat.le_refl _) (.cells #[.int .i64 0, .int .i64 0, .slice none 0 0, .slice none 0 0, .slice none 0 0, .slice none 0 0, .int .i64 0, .int .i64 0] 63)))
          have z0 := (B4.out.cell (p := ⟨X, 0, none⟩) xl).trans x0
          have xl4 := Nat.lt_of_lt_of_le xl B4.out.size
          clear bi y0
          go_wp2_with (at_builtin; refine wpList_append_inode rfl (.tmp 47) (.tmp 49) rfl HXa.out (by omega) rfl wi.heap.size rfl (Blk.new wi (inoL I0 nilSl) 63).c ?_; intro ga capa wa ca cfa hxa hba hta)
          have HX4 := Lib.hid hxa
          have HK4 := Lib.hid (HKa.out.typ hta)
          have HB4 := Lib.hid (show Below base w _ ∧ Typ w _ from ⟨(B5.out.mono H.out.base.1).trans hba, (Typ.of_below B5.out).trans hta⟩)
          clear hxa hba hta ca cfa z0 HXa HKa
          have z0 : _ := HX4.out.xr.b.c 0 _ rfl
          have z2 : _ := HX4.out.xr.b.c 2 _ rfl
          have hlen : (t ++ [I0]).length = t.length + 1 := by simp
          rw [hlen] at z0
          generalize hw4 : wa.setCell ⟨X, 0, none⟩ (.slice (some ⟨ga, 0, none⟩) (t.length + 1) capa) = w4 at *
          clear hw4 x0 x2
          generalize hT : t ++ [I0] = t1 at *
          clear hT
          go_upto_region 12 with fail
          have i0 : w4.cell? ⟨ga, t.length * 8, none⟩ = some (.int .i64 (ino t1 t.length).k) := HX4.out.ot.c t.length hl1 0 _ rfl
          have i1 := HX4.out.ot.c t.length hl1 1 _ rfl
          have i2 := HX4.out.ot.c t.length hl1 2 _ rfl
          have i3 := HX4.out.ot.c t.length hl1 3 _ rfl
          have i4 := HX4.out.ot.c t.length hl1 4 _ rfl
          have i5 := HX4.out.ot.c t.length hl1 5 _ rfl
          have i6 := HX4.out.ot.c t.length hl1 6 _ rfl
          have i7 := HX4.out.ot.c t.length hl1 7 _ rfl
          have f0 := HX4.out.ot.frozen (t.length * 8)
          have f1 := HX4.out.ot.frozen (t.length * 8 + 1)
          have f2 := HX4.out.ot.frozen (t.length * 8 + 2)
          have f3 := HX4.out.ot.frozen (t.length * 8 + 3)
          have f4 := HX4.out.ot.frozen (t.length * 8 + 4)
          have f5 := HX4.out.ot.frozen (t.length * 8 + 5)
          have f6 := HX4.out.ot.frozen (t.length * 8 + 6)
          have f7 := HX4.out.ot.frozen (t.length * 8 + 7)
          have hgl4 := HX4.out.base.2.2.1
          have hag := (HX4.out.apart HK4.out).1
          obtain ⟨pl, p0, p1, p2, pf0, pf1, pf2⟩ := HK4.out.pb
          simp only at p0 p1 p2
          obtain ⟨g5, cap5, sl5, hx5, hb5, ht5⟩ := HX4.out.blank2 (j := t.length) hl1 kind r.u hk hu
          rw [← ht2] at hx5
          have HX5 := Lib.hid hx5
          have HB5 := Lib.hid (show Below base w _ ∧ Typ w _ from ⟨HB4.out.1.trans hb5, HB4.out.2.trans ht5⟩)
          have HK5 := Lib.hid (HK4.out.typ ht5)
          clear hx5 hb5 ht5 ht2
          go_region
          all_goals
            go_wp2_with fail
            refine (CA.out _ _ _ _ HX5.out).mono ?_
            rintro e w6 ⟨rfl, g6, cap6, sl6, hx6, hb6, ht6⟩
            have HX6 := Lib.hid hx6
            have HB6 := Lib.hid (show Below base w w6 ∧ Typ w w6 from ⟨HB5.out.1.trans hb6, HB5.out.2.trans ht6⟩)
            obtain ⟨ul, u0, u1, u2, _, _, _⟩ := (HK5.out.typ ht6).pb
            simp only at u0 u1 u2
            clear hx6 hb6 ht6
            go_wp2_with fail
            refine (CT.out _ _ _ _ HX6.out).mono ?_
            rintro e w7 ⟨rfl, g7, cap7, sl7, hx7, hb7, ht7⟩
            have HM := Lib.hid (show MutP base X r vd va t4 w w7 from ⟨g7, cap7, sl7, hx7, HB6.out.1.trans hb7, HB6.out.2.trans ht7⟩)
            clear hx7 hb7 ht7
            go_wp2
            go_ret2
            exact ⟨rfl, HM.out⟩
  · have HQ := Lib.hid (show mkF t r kind = ((0, (vacantF t r.u r.p).2), t) by unfold mkF; rw [if_pos hc])
    rw [HQ.out]
    clear HQ
    generalize vacantF t r.u r.p = U at *
    obtain ⟨a, u2⟩ := U
    obtain ⟨ap, an, ai⟩ := a
    unfold plV at *
    simp only at *
    have hcc1 : (u2 != 0) = true := by simpa using hc
    clear h gm h1 hv
    go_enter Tryz.func66, Tryz.ntmps66
    go_wp2_with fail
    refine CR.out.mono ?_
    rintro e w1 ⟨rfl, b1⟩
    have B1 := Lib.hid b1
    have B2 := Lib.hid (B1.out.alloc B1.out.size (.cells #[.int .i64 (ap : Int), .string an, .int .i64 ai] 160))
    clear b1
    go_wp2
    go_ret2
    exact ⟨rfl, g, cap, sl, H.out.up B2.out, B2.out.mono H.out.base.1, Typ.of_below B2.out⟩

end Go.Proofs.YtmbbmmnpkdfecaaGreatDoor
