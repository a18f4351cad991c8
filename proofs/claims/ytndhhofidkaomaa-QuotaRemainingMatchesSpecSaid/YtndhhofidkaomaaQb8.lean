/- Package quota and what its laws compare it with, at this seat's translation.
   Condition: as each theorem states; this text: FsInode. -/
import Derived.Test.YtndhhofidkaomaaQb5
import Derived.Test.YtndhhofidkaomaaQb1
import Derived.Deep.Quiet
import Derived.IntWalk

set_option linter.all false

/- The reference's isZero and inodeCode at every inode: the same code as the program's. Conditions: the tree's cells lie in memory as they read. -/

set_option linter.all false
namespace Go.Proofs.Ytndhhofidkaomaa
open Go.RowKit

set_option maxHeartbeats 1600000 in
theorem isZero_any (x : Nod) (ve vd va vx : Value) (w : World) (h : NodS w w.heap.size ve vd va vx x) :
    Calls Try.prog 36 #[.agg #[.int .i64 x.k, .int .i64 x.o, ve, vd, va, vx, .int .i64 x.q, .int .i64 x.v]] w fun e w' => e = .returned (.bool (decide (codeF x = 0))) ∧ Below w.heap.size w w' := by
  obtain ⟨⟨ea, ec, rfl, hec, hel, _, _⟩, ⟨da, dc, rfl, hdc⟩, hdl, ⟨aa, acp, rfl, hacc, hacl, _, _⟩, ⟨xa, xc, rfl, hxc, hxl, _, _⟩, _, _, _, _⟩ := h
  have HC : Hid (decide (codeF x = 0) = decide (x.es.length + x.dl + x.ac.length + x.xs.length = 0 ∧ x.o = 0 ∧ x.q = 0 ∧ x.v = 0)) := Lib.hid (by
    unfold codeF
    split
    · rename_i h; simp [h]
    · rename_i h; rw [decide_eq_false h]; rfl)
  generalize decide (codeF x = 0) = r at *
  generalize x.es.length = n1 at *
  generalize x.dl = n2 at *
  generalize x.ac.length = n3 at *
  generalize x.xs.length = n4 at *
  obtain ⟨k, o, es, dl, ac, xs, q, v⟩ := x
  simp only at *
  by_cases h_o : o = 0
  · subst h_o
    by_cases h_q : q = 0
    · subst h_q
      by_cases h_v : v = 0
      · subst h_v
        by_cases h_n1 : n1 = 0
        · subst h_n1
          by_cases h_n2 : n2 = 0
          · subst h_n2
            by_cases h_n3 : n3 = 0
            · subst h_n3
              by_cases h_n4 : n4 = 0
              · subst h_n4
                rw [decide_eq_true (by simp)] at HC
                go_enter Try.func36, Try.ntmps36
                go_wp2
                go_ret
                exact ⟨ret_bool (by rw [HC.out]), (Below.refl _ _).alloc (Nat.le_refl _) _⟩
              · rw [decide_eq_false (by omega)] at HC
                have b_n4 : ((n4 : Int) == 0) = false := by rw [beq_eq_false_iff_ne]; omega
                go_enter Try.func36, Try.ntmps36
                go_wp2
                go_ret
                exact ⟨ret_bool (by rw [HC.out]), (Below.refl _ _).alloc (Nat.le_refl _) _⟩
            · rw [decide_eq_false (by omega)] at HC
              have b_n3 : ((n3 : Int) == 0) = false := by rw [beq_eq_false_iff_ne]; omega
              go_enter Try.func36, Try.ntmps36
              go_wp2
              go_ret
              exact ⟨ret_bool (by rw [HC.out]), (Below.refl _ _).alloc (Nat.le_refl _) _⟩
          · rw [decide_eq_false (by omega)] at HC
            have b_n2 : ((n2 : Int) == 0) = false := by rw [beq_eq_false_iff_ne]; omega
            go_enter Try.func36, Try.ntmps36
            go_wp2
            go_ret
            exact ⟨ret_bool (by rw [HC.out]), (Below.refl _ _).alloc (Nat.le_refl _) _⟩
        · rw [decide_eq_false (by omega)] at HC
          have b_n1 : ((n1 : Int) == 0) = false := by rw [beq_eq_false_iff_ne]; omega
          go_enter Try.func36, Try.ntmps36
          go_wp2
          go_ret
          exact ⟨ret_bool (by rw [HC.out]), (Below.refl _ _).alloc (Nat.le_refl _) _⟩
      · rw [decide_eq_false (by omega)] at HC
        have b_v : (v == 0) = false := by simpa using h_v
        go_enter Try.func36, Try.ntmps36
        go_wp2
        go_ret
        exact ⟨ret_bool (by rw [HC.out]), (Below.refl _ _).alloc (Nat.le_refl _) _⟩
    · rw [decide_eq_false (by omega)] at HC
      have b_q : (q == 0) = false := by simpa using h_q
      go_enter Try.func36, Try.ntmps36
      go_wp2
      go_ret
      exact ⟨ret_bool (by rw [HC.out]), (Below.refl _ _).alloc (Nat.le_refl _) _⟩
  · rw [decide_eq_false (by omega)] at HC
    have b_o : (o == 0) = false := by simpa using h_o
    go_enter Try.func36, Try.ntmps36
    go_wp2
    go_ret
    exact ⟨ret_bool (by rw [HC.out]), (Below.refl _ _).alloc (Nat.le_refl _) _⟩

set_option maxRecDepth 100000 in
set_option maxHeartbeats 8000000 in
theorem inodeCode_any (a : Option Addr) (c : Nat) (t : Tr) (x : Nod) (ve vd va vx : Value) (w : World) (ht : Nods w w.heap.size a c t) (h : NodS w w.heap.size ve vd va vx x) :
    Calls Try.prog 23 #[.agg #[.slice a t.length c], .agg #[.int .i64 x.k, .int .i64 x.o, ve, vd, va, vx, .int .i64 x.q, .int .i64 x.v]] w fun e w' => e = .returned (.int .i64 (codeN t x)) ∧ Below w.heap.size w w' := by
  obtain ⟨ea, ec, rfl, hec, hel, hef, hex⟩ := h.es
  obtain ⟨da, dc, rfl, _⟩ := h.dl
  obtain ⟨aa, acp, rfl⟩ : ∃ aa ac, va = .slice aa x.ac.length ac := by obtain ⟨da, dc, e, _⟩ := h.ac; exact ⟨da, dc, e⟩
  obtain ⟨xa, xc, rfl⟩ : ∃ xa xc, vx = .slice xa x.xs.length xc := by obtain ⟨da, dc, e, _⟩ := h.xs; exact ⟨da, dc, e⟩
  have hll := ht.len
  have HN := Lib.hid (show codeN t x = if x.k = 0 then codeF x else if x.k = 1 ∨ x.k = 2 then or4 (codeC x) (valF x.ac).1 (valA x.xs).1 (codeEs t x.es) else 4 from rfl)
  have HC := Lib.hid (show codeC x = if ¬ (0 ≤ x.o ∧ x.o ≤ 7) ∨ ¬ (0 ≤ x.v ∧ x.v ≤ 1000000) ∨ ¬ (0 ≤ x.q ∧ x.q ≤ 100000) then 3
    else if (x.k = 1 ∧ 0 < x.dl) ∨ (x.k ≠ 1 ∧ (0 < x.es.length ∨ x.q ≠ 0)) then 5
    else if 200 < x.dl then 10 else 0 from rfl)
  have HZ := Lib.hid (show codeF x = 0 ∨ codeF x = 5 from by unfold codeF; split; exact .inl rfl; exact .inr rfl)
  have D1 := Lib.hid (fun W (hb : Below w.heap.size w W) => isZero_any x _ _ _ _ W (h.up hb))
  have D3 := Lib.hid (fun W (hb : Below w.heap.size w W) => refValid_any _ x.ac W ((h.up hb).ac))
  have D4 := Lib.hid (fun W (hb : Below w.heap.size w W) => refValidate_any _ x.xs W ((h.up hb).xs))
  unfold valV faultV at D3
  unfold valAV faultV at D4
  have HX := Lib.hid hex
  have HFT := Lib.hid hef
  have HT := Lib.hid ht
  have HR := Lib.hid (show RS w ((w.alloc (.cells #[.slice a t.length c] 24)).alloc (.cells #[.int .i64 x.k, .int .i64 x.o, .slice ea x.es.length ec, .slice da x.dl dc, .slice aa x.ac.length acp, .slice xa x.xs.length xc, .int .i64 x.q, .int .i64 x.v] 47)) (w.heap.size + 1) w.heap.size (.slice a t.length c) (.slice ea x.es.length ec) (.slice da x.dl dc) (.slice aa x.ac.length acp) (.slice xa x.xs.length xc) x from
    ⟨((Below.refl _ _).alloc (Nat.le_refl _) _).alloc (by simp) _, by simp, by simpa using NodC.new (w.alloc (.cells #[.slice a t.length c] 24)) x (.slice ea x.es.length ec) (.slice da x.dl dc) (.slice aa x.ac.length acp) (.slice xa x.xs.length xc) 47, (One.new w _ _).alloc _⟩)
  have HES := Lib.hid (fun (hn : ¬ 16 < x.es.length) => (⟨fun k c hk hc hn2 hA => codeEs_hit (t := t) hn (k := k) (c := c) hk hc hn2 hA, codeEs_miss (t := t) hn⟩ : (∀ k c, k < x.es.length → codeAt t x.es k = c → ¬ c = 0 → (∀ j, j < k → codeAt t x.es j = 0) → codeEs t x.es = c) ∧ ((∀ j, j < x.es.length → codeAt t x.es j = 0) → codeEs t x.es = 0)))
  have HE2 := Lib.hid (show 16 < x.es.length → codeEs t x.es = 2 from fun h => by unfold codeEs; rw [if_pos h])
  clear ht h hex hef
  generalize codeN t x = r at *
  generalize codeF x = r1 at *
  generalize codeC x = r2 at *
  generalize (valF x.ac).1 = r3 at *
  generalize (valF x.ac).2 = r3b at *
  generalize (valA x.xs).1 = r4 at *
  generalize (valA x.xs).2 = r4b at *
  generalize codeEs t x.es = r5 at *
  obtain ⟨k, ow, es, dl, ac, xs, q, v⟩ := x
  simp only at *
  obtain ⟨hRR, e0, e1, e2, e3, e4, e5, e6, e7, et⟩ := RS.full HR.out
  clear hRR e0 e1 e2 e3 e4 e5 e6 e7 et
  by_cases ka : k < 0
  · rw [if_neg (by omega), if_neg (by omega)] at HN
    go_enter Try.func23, Try.ntmps23
    go_wp2
    go_ret
    exact ⟨ret_int HN.out.symm, HR.out.b⟩
  · have ka1 : decide (k < 0) = false := by rw [decide_eq_false_iff_not]; exact ka
    by_cases kb : 2 < k
    · rw [if_neg (by omega), if_neg (by omega)] at HN
      go_enter Try.func23, Try.ntmps23
      go_wp2
      go_ret
      exact ⟨ret_int HN.out.symm, HR.out.b⟩
    · have kb1 : decide (2 < k) = false := by rw [decide_eq_false_iff_not]; exact kb
      by_cases k0 : k = 0
      · subst k0
        rw [if_pos rfl] at HN
        rcases HZ.out with hz | hz
        · subst hz
          simp only [decide_true] at D1
          go_enter Try.func23, Try.ntmps23
          go_wp2_with fail
          refine (D1.out _ HR.out.b).mono ?_
          rintro e w2 ⟨rfl, b2⟩
          have B2 := Lib.hid (HR.out.b.trans (b2.mono HR.out.b.size))
          clear b2
          go_wp2
          go_ret
          exact ⟨ret_int HN.out.symm, B2.out⟩
        · subst hz
          rw [decide_eq_false (by decide)] at D1
          go_enter Try.func23, Try.ntmps23
          go_wp2_with fail
          refine (D1.out _ HR.out.b).mono ?_
          rintro e w2 ⟨rfl, b2⟩
          have B2 := Lib.hid (HR.out.b.trans (b2.mono HR.out.b.size))
          clear b2
          go_wp2
          go_ret
          exact ⟨ret_int HN.out.symm, B2.out⟩
      · have k01 : (k == 0) = false := by simpa using k0
        have k12 : k = 1 ∨ k = 2 := by omega
        rw [if_neg k0, if_pos k12] at HN
        clear D1 HZ
        by_cases o0 : ow < 0
        · rw [if_pos (by omega)] at HC
          have HN2 : Hid (r = 3) := Lib.hid (by rw [HN.out, HC.out]; rfl)
          replace HN := HN2
          clear k0 k12 ka kb
          go_enter Try.func23, Try.ntmps23
          go_wp2
          go_ret
          exact ⟨ret_int HN.out.symm, HR.out.b⟩
        · have o0b : decide (ow < 0) = false := by rw [decide_eq_false_iff_not]; exact o0
          by_cases o1 : 7 < ow
          · rw [if_pos (by omega)] at HC
            have HN2 : Hid (r = 3) := Lib.hid (by rw [HN.out, HC.out]; rfl)
            replace HN := HN2
            clear k0 k12 ka kb
            go_enter Try.func23, Try.ntmps23
            go_wp2
            go_ret
            exact ⟨ret_int HN.out.symm, HR.out.b⟩
          · have o1b : decide (7 < ow) = false := by rw [decide_eq_false_iff_not]; exact o1
            by_cases v0 : v < 0
            · rw [if_pos (by omega)] at HC
              have HN2 : Hid (r = 3) := Lib.hid (by rw [HN.out, HC.out]; rfl)
              replace HN := HN2
              clear k0 k12 ka kb
              go_enter Try.func23, Try.ntmps23
              go_wp2
              go_ret
              exact ⟨ret_int HN.out.symm, HR.out.b⟩
            · have v0b : decide (v < 0) = false := by rw [decide_eq_false_iff_not]; exact v0
              by_cases v1 : 1000000 < v
              · rw [if_pos (by omega)] at HC
                have HN2 : Hid (r = 3) := Lib.hid (by rw [HN.out, HC.out]; rfl)
                replace HN := HN2
                clear k0 k12 ka kb
                go_enter Try.func23, Try.ntmps23
                go_wp2
                go_ret
                exact ⟨ret_int HN.out.symm, HR.out.b⟩
              · have v1b : decide (1000000 < v) = false := by rw [decide_eq_false_iff_not]; exact v1
                by_cases q0 : q < 0
                · rw [if_pos (by omega)] at HC
                  have HN2 : Hid (r = 3) := Lib.hid (by rw [HN.out, HC.out]; rfl)
                  replace HN := HN2
                  clear k0 k12 ka kb
                  go_enter Try.func23, Try.ntmps23
                  go_wp2
                  go_ret
                  exact ⟨ret_int HN.out.symm, HR.out.b⟩
                · have q0b : decide (q < 0) = false := by rw [decide_eq_false_iff_not]; exact q0
                  by_cases q1 : 100000 < q
                  · rw [if_pos (by omega)] at HC
                    have HN2 : Hid (r = 3) := Lib.hid (by rw [HN.out, HC.out]; rfl)
                    replace HN := HN2
                    clear k0 k12 ka kb
                    go_enter Try.func23, Try.ntmps23
                    go_wp2
                    go_ret
                    exact ⟨ret_int HN.out.symm, HR.out.b⟩
                  · have q1b : decide (100000 < q) = false := by rw [decide_eq_false_iff_not]; exact q1
                    rw [if_neg (by omega)] at HC
                    clear o0 o1 v0 v1 q0 q1 ka kb k0
                    rcases k12 with rfl | rfl
                    · by_cases hd : 0 < dl
                      · rw [if_pos (.inl ⟨rfl, hd⟩)] at HC
                        have HN2 : Hid (r = 5) := Lib.hid (by rw [HN.out, HC.out]; rfl)
                        replace HN := HN2
                        have hd2 : (0 : Int) < (dl : Int) := by omega
                        go_enter Try.func23, Try.ntmps23
                        go_wp2
                        go_ret
                        exact ⟨ret_int HN.out.symm, HR.out.b⟩
                      · obtain rfl : dl = 0 := by omega
                        rw [if_neg (by simp), if_neg (by omega)] at HC
                        clear hd
                        have hr2 := HC.out
                        subst hr2
                        clear HC
                        by_cases h3 : r3 = 0
                        · subst h3
                          by_cases h4 : r4 = 0
                          · subst h4
                            have HN2 : Hid (r = r5) := Lib.hid (by rw [HN.out]; unfold or4; simp)
                            replace HN := HN2
                            by_cases h16 : 16 < es.length
                            · have hr5 := HE2.out h16
                              subst hr5
                              have h16b : (16 : Int) < (es.length : Int) := by omega
                              go_enter Try.func23, Try.ntmps23
                              go_wp2_with fail
                              refine (D3.out _ HR.out.b).mono ?_
                              rintro e w1 ⟨rfl, b1⟩
                              have S1 := HR.out.step b1
                              have R1 := Lib.hid (S1.alloc (.cells #[.int .i64 0, .int .i64 r3b] 27))
                              obtain ⟨_, e0, e1, e2, e3, e4, e5, e6, e7, et⟩ := RS.full S1
                              have l1 := S1.lt
                              have l2 := S1.t.lt
                              clear b1 S1
                              go_wp2_with fail
                              clear e0 e1 e2 e3 e4 e5 e6 e7 et l1 l2
                              refine (D4.out _ R1.out.b).mono ?_
                              rintro e w2 ⟨rfl, b2⟩
                              have S2 := R1.out.step b2
                              have R2 := Lib.hid (S2.alloc (.cells #[.int .i64 0, .int .i64 r4b] 27))
                              obtain ⟨_, e0, e1, e2, e3, e4, e5, e6, e7, et⟩ := RS.full S2
                              have l1 := S2.lt
                              have l2 := S2.t.lt
                              clear b2 S2
                              go_wp2
                              go_ret
                              exact ⟨ret_int HN.out.symm, R2.out.b⟩
                            · have h16b : decide ((16 : Int) < (es.length : Int)) = false := by rw [decide_eq_false_iff_not]; omega
                              have hes := HES.out h16
                              have HE := Lib.hid hes
                              clear hes HES HE2
                              go_enter Try.func23, Try.ntmps23
                              go_wp2_with fail
                              refine (D3.out _ HR.out.b).mono ?_
                              rintro e w1 ⟨rfl, b1⟩
                              have S1 := HR.out.step b1
                              have R1 := Lib.hid (S1.alloc (.cells #[.int .i64 0, .int .i64 r3b] 27))
                              obtain ⟨_, e0, e1, e2, e3, e4, e5, e6, e7, et⟩ := RS.full S1
                              have l1 := S1.lt
                              have l2 := S1.t.lt
                              clear b1 S1
                              go_wp2_with fail
                              clear e0 e1 e2 e3 e4 e5 e6 e7 et l1 l2
                              refine (D4.out _ R1.out.b).mono ?_
                              rintro e w2 ⟨rfl, b2⟩
                              have S2 := R1.out.step b2
                              have R2 := Lib.hid (S2.alloc (.cells #[.int .i64 0, .int .i64 r4b] 27))
                              obtain ⟨_, e0, e1, e2, e3, e4, e5, e6, e7, et⟩ := RS.full S2
                              have l1 := S2.lt
                              have l2 := S2.t.lt
                              clear b2 S2
                              go_wp2_with fail
                              clear e0 e1 e2 e3 e4 e5 e6 e7 et l1 l2 h16
                              go_loopg [7, 8] es.length (fun gg s7 _ wr => ∃ kk : Nat, kk ≤ es.length ∧ es.length - kk ≤ gg ∧ s7 = .int .i64 kk ∧ Aside (RS w wr (w.heap.size + 1) w.heap.size (.slice a t.length c) (.slice ea es.length ec) (.slice da 0 dc) (.slice aa ac.length acp) (.slice xa xs.length xc) ⟨1, ow, es, 0, ac, xs, q, v⟩) ∧ Aside (∀ j, j < kk → codeAt t es j = 0))
                              case atStart => exact ⟨0, by omega, by omega, rfl, R2.out, fun j hj => absurd hj (Nat.not_lt_zero _)⟩
                              case round =>
                                obtain ⟨kk, hkk, hg, rfl, RR, A⟩ := hrel
                                clear R1 R2
                                obtain ⟨_, e0, e1, e2, e3, e4, e5, e6, e7, et⟩ := RS.full RR.out
                                have l1 := RR.out.lt
                                have l2 := RR.out.t.lt
                                have hbs := RR.out.b.size
                                by_cases hlt : kk < es.length
                                · have hltz : (kk : Int) < (es.length : Int) := by omega
                                  have hk0 : (0 : Int) ≤ (kk : Int) := Int.natCast_nonneg _
                                  have hm9 : es.length - (kk + 1) < es.length - kk := Nat.sub_lt_sub_left hlt (Nat.lt_succ_self kk)
                                  obtain ⟨b, o, rfl, hb, hj⟩ := HX.out (by omega)
                                  have g0 : wr.cell? ⟨b, o + kk * 2, none⟩ = some (.string (es.getD kk D0).n) := (RR.out.b.cell (p := ⟨b, _, none⟩) hb).trans (hj kk hlt).1
                                  have g1 : wr.cell? ⟨b, o + kk * 2 + 1, none⟩ = some (.int .i64 (es.getD kk D0).i) := (RR.out.b.cell (p := ⟨b, _, none⟩) hb).trans (hj kk hlt).2
                                  have HP := Lib.hid (show 0 < kk → prevP ByteArray.empty es kk = (es.getD (kk - 1) D0).n ∧ wr.cell? ⟨b, o + (kk - 1) * 2, none⟩ = some (.string (es.getD (kk - 1) D0).n) from fun h0 => ⟨by unfold prevP; rw [if_neg (by omega)], (RR.out.b.cell (p := ⟨b, _, none⟩) hb).trans (hj (kk - 1) (by omega)).1⟩)
                                  have hfit := HFT.out (es.getD kk D0) (by rw [deD hlt]; exact List.getElem_mem hlt)
                                  clear hj
                                  generalize hy : es.getD kk D0 = y at g0 g1 hfit
                                  obtain ⟨x, i⟩ := y
                                  have CL := Lib.hid (codeAt_of (t := t) (p := prevP ByteArray.empty es kk) hy rfl)
                                  clear hy
                                  have hcall := Lib.hid (fun W => validName_any x W hfit.1)
                                  clear hfit
                                  cases hv : vname x with
                                  | false =>
                                    rw [hv] at hcall CL
                                    rw [if_pos rfl] at CL
                                    have HV := Lib.hid (HE.out.1 kk _ hlt CL.out (by decide) A.out)
                                    clear hv HP
                                    go_wp2_with fail
                                    refine (hcall.out _).mono ?_
                                    rintro e w' ⟨rfl, rfl⟩
                                    go_wp2
                                    go_ret
                                    exact ⟨ret_int (by rw [HN.out, HV.out]), RR.out.b.alloc hbs _⟩
                                  | true =>
                                    have hxne : x ≠ ByteArray.empty := fun e => by have := (vname_size hv).1; rw [e] at this; simp at this
                                    rw [hv] at hcall CL
                                    rw [if_neg (by simp)] at CL
                                    clear hv
                                    cases kk with
                                    | zero =>
                                      rw [if_neg (by unfold prevP; rw [if_pos rfl, ltS_empty]; simp [hxne])] at CL
                                      clear hxne HP
                                      have g0 : wr.cell? ⟨b, o, none⟩ = some (.string x) := by simpa using g0
                                      have g1 : wr.cell? ⟨b, o + 1, none⟩ = some (.int .i64 i) := by simpa using g1
                                      by_cases hi1 : i < 1
                                      · rw [if_pos (by by_cases e : i = 0; exact .inl e; exact .inr (used_out (by omega)))] at CL
                                        have HV := Lib.hid (HE.out.1 0 _ hlt CL.out (by decide) A.out)
                                        go_wp2_with fail
                                        refine (hcall.out _).mono ?_
                                        rintro e w' ⟨rfl, rfl⟩
                                        go_wp2_with fail
                                        go_quiet (fail)
                                        go_wp2
                                        go_ret
                                        exact ⟨ret_int (by rw [HN.out, HV.out]), below_drewN (RR.out.b.alloc hbs _) _⟩
                                      · have hi2 : decide (i < 1) = false := by rw [decide_eq_false_iff_not]; exact hi1
                                        by_cases hi3 : (t.length : Int) ≤ i
                                        · rw [if_pos (.inr (used_out (by omega)))] at CL
                                          have HV := Lib.hid (HE.out.1 0 _ hlt CL.out (by decide) A.out)
                                          clear hi1
                                          go_wp2_with fail
                                          refine (hcall.out _).mono ?_
                                          rintro e w' ⟨rfl, rfl⟩
                                          go_wp2_with fail
                                          go_quiet (fail)
                                          go_wp2
                                          go_ret
                                          exact ⟨ret_int (by rw [HN.out, HV.out]), below_drewN (RR.out.b.alloc hbs _) _⟩
                                        · have hi4 : decide ((t.length : Int) ≤ i) = false := by rw [decide_eq_false_iff_not]; exact hi3
                                          rw [used_at (by omega) (by omega)] at CL
                                          obtain ⟨n, rfl⟩ := Int.eq_ofNat_of_zero_le (show 0 ≤ i by omega)
                                          obtain ⟨b9, o9, ve9, vd9, va9, vx9, rfl, hb9, hc9, _⟩ := (HT.out.below RR.out.b).one (j := n) (by omega)
                                          have q0 := hc9.c0; have hb8 := Nat.lt_of_lt_of_le hb9 RR.out.b.size
                                          clear hc9
                                          have CLa := Lib.hid (show (nod t n).k = 0 → codeAt t es 0 = 3 from fun h => CL.out.trans (if_pos (.inr (by rw [Int.toNat_natCast, h]; rfl))))
                                          have CLb := Lib.hid (show (nod t n).k ≠ 0 → codeAt t es 0 = 0 from fun h => CL.out.trans (if_neg (fun h2 => h2.elim (fun h3 => absurd h3 (by omega)) (fun h3 => h (by rw [Int.toNat_natCast, bne_eq_false_iff_eq] at h3; exact h3)))))
                                          clear CL
                                          have n9 : (n : Int) < (t.length : Int) := by omega
                                          have n8 : (0 : Int) ≤ (n : Int) := Int.natCast_nonneg _
                                          have n7 : ¬ (n : Int) = 0 := by omega
                                          generalize (nod t n).k = k9 at *
                                          clear hi1 hi3
                                          by_cases hk9 : k9 = 0
                                          · subst hk9
                                            have CL := Lib.hid (CLa.out rfl)
                                            have HV := Lib.hid (HE.out.1 0 _ hlt CL.out (by decide) A.out)
                                            clear n7
                                            go_wp2_with fail
                                            refine (hcall.out _).mono ?_
                                            rintro e w' ⟨rfl, rfl⟩
                                            go_wp2_with fail
                                            go_quiet (fail)
                                            go_wp2
                                            go_ret
                                            exact ⟨ret_int (by rw [HN.out, HV.out]), below_drewN (RR.out.b.alloc hbs _) _⟩
                                          · have hk8 : (k9 == 0) = false := by simpa using hk9
                                            have CL := Lib.hid (CLb.out hk9)
                                            clear n7 hk9
                                            go_wp2_with fail
                                            refine (hcall.out _).mono ?_
                                            rintro e w' ⟨rfl, rfl⟩
                                            go_wp2_with fail
                                            go_quiet (fail)
                                            go_wp2_with fail
                                            go_roundg (es.length - (0 + 1))
                                            case measure => exact Nat.lt_of_lt_of_le hm9 hg
                                            case rel =>
                                              refine ⟨0 + 1, by omega, by omega, by go_num, (show RS w _ _ _ _ _ _ _ _ _ from (RR.out.alloc (.cells #[.string x, .int .i64 (n : Int)] 49)).step (below_drewN (Below.refl _ _) _)), (show Aside _ from fun j hj => ?_)⟩
                                              by_cases e : j = 0
                                              · subst e; exact CL.out
                                              · exact A.out j (by omega)
                                    | succ m =>
                                      obtain ⟨hp1, hp2⟩ := HP.out (by omega)
                                      rw [Nat.add_sub_cancel] at hp1 hp2
                                      rw [hp1] at CL
                                      generalize (es.getD m D0).n = p at CL hp2
                                      clear HP hp1 hxne
                                      have hmz : (m : Int) < (es.length : Int) := by omega
                                      have hm0 : (0 : Int) ≤ (m : Int) := Int.natCast_nonneg _
                                      have hb7 : b < wr.heap.size := Nat.lt_of_lt_of_le hb hbs
                                      have hwm : IntKind.i64.wrap (m : Int) = (m : Int) := IntWalk.i64_in _ (by omega)
                                      cases hlq : ltS p x with
                                      | false =>
                                        rw [hlq, if_pos rfl] at CL
                                        have hle : (Op.bytesLess x.toList p.toList || x.toList == p.toList) = true := by rw [leqS, hlq]; rfl
                                        have HV := Lib.hid (HE.out.1 (m + 1) _ hlt CL.out (by decide) A.out)
                                        clear hlq
                                        go_wp2_with fail
                                        refine (hcall.out _).mono ?_
                                        rintro e w' ⟨rfl, rfl⟩
                                        go_wp2_with fail
                                        go_quiet (fail)
                                        go_wp2
                                        go_ret
                                        exact ⟨ret_int (by rw [HN.out, HV.out]), below_drewN (RR.out.b.alloc hbs _) _⟩
                                      | true =>
                                        rw [hlq, if_neg (by simp)] at CL
                                        have hle : (Op.bytesLess x.toList p.toList || x.toList == p.toList) = false := by rw [leqS, hlq]; rfl
                                        clear hlq
                                        by_cases hi1 : i < 1
                                        · rw [if_pos (by by_cases e : i = 0; exact .inl e; exact .inr (used_out (by omega)))] at CL
                                          have HV := Lib.hid (HE.out.1 (m + 1) _ hlt CL.out (by decide) A.out)
                                          go_wp2_with fail
                                          refine (hcall.out _).mono ?_
                                          rintro e w' ⟨rfl, rfl⟩
                                          go_wp2_with fail
                                          go_quiet (fail)
                                          go_wp2
                                          go_ret
                                          exact ⟨ret_int (by rw [HN.out, HV.out]), below_drewN (RR.out.b.alloc hbs _) _⟩
                                        · have hi2 : decide (i < 1) = false := by rw [decide_eq_false_iff_not]; exact hi1
                                          by_cases hi3 : (t.length : Int) ≤ i
                                          · rw [if_pos (.inr (used_out (by omega)))] at CL
                                            have HV := Lib.hid (HE.out.1 (m + 1) _ hlt CL.out (by decide) A.out)
                                            clear hi1
                                            go_wp2_with fail
                                            refine (hcall.out _).mono ?_
                                            rintro e w' ⟨rfl, rfl⟩
                                            go_wp2_with fail
                                            go_quiet (fail)
                                            go_wp2
                                            go_ret
                                            exact ⟨ret_int (by rw [HN.out, HV.out]), below_drewN (RR.out.b.alloc hbs _) _⟩
                                          · have hi4 : decide ((t.length : Int) ≤ i) = false := by rw [decide_eq_false_iff_not]; exact hi3
                                            rw [used_at (by omega) (by omega)] at CL
                                            obtain ⟨n, rfl⟩ := Int.eq_ofNat_of_zero_le (show 0 ≤ i by omega)
                                            obtain ⟨b9, o9, ve9, vd9, va9, vx9, rfl, hb9, hc9, _⟩ := (HT.out.below RR.out.b).one (j := n) (by omega)
                                            have q0 := hc9.c0; have hb8 := Nat.lt_of_lt_of_le hb9 RR.out.b.size
                                            clear hc9
                                            have CLa := Lib.hid (show (nod t n).k = 0 → codeAt t es (m + 1) = 3 from fun h => CL.out.trans (if_pos (.inr (by rw [Int.toNat_natCast, h]; rfl))))
                                            have CLb := Lib.hid (show (nod t n).k ≠ 0 → codeAt t es (m + 1) = 0 from fun h => CL.out.trans (if_neg (fun h2 => h2.elim (fun h3 => absurd h3 (by omega)) (fun h3 => h (by rw [Int.toNat_natCast, bne_eq_false_iff_eq] at h3; exact h3)))))
                                            clear CL
                                            have n9 : (n : Int) < (t.length : Int) := by omega
                                            have n8 : (0 : Int) ≤ (n : Int) := Int.natCast_nonneg _
                                            have n7 : ¬ (n : Int) = 0 := by omega
                                            generalize (nod t n).k = k9 at *
                                            clear hi1 hi3
                                            by_cases hk9 : k9 = 0
                                            · subst hk9
                                              have CL := Lib.hid (CLa.out rfl)
                                              have HV := Lib.hid (HE.out.1 (m + 1) _ hlt CL.out (by decide) A.out)
                                              clear n7
                                              go_wp2_with fail
                                              refine (hcall.out _).mono ?_
                                              rintro e w' ⟨rfl, rfl⟩
                                              go_wp2_with fail
                                              go_quiet (fail)
                                              go_wp2
                                              go_ret
                                              exact ⟨ret_int (by rw [HN.out, HV.out]), below_drewN (RR.out.b.alloc hbs _) _⟩
                                            · have hk8 : (k9 == 0) = false := by simpa using hk9
                                              have CL := Lib.hid (CLb.out hk9)
                                              clear n7 hk9
                                              go_wp2_with fail
                                              refine (hcall.out _).mono ?_
                                              rintro e w' ⟨rfl, rfl⟩
                                              go_wp2_with fail
                                              go_quiet (fail)
                                              go_wp2_with fail
                                              go_roundg (es.length - ((m + 1) + 1))
                                              case measure => exact Nat.lt_of_lt_of_le hm9 hg
                                              case rel =>
                                                refine ⟨(m + 1) + 1, by omega, by omega, by go_num, (show RS w _ _ _ _ _ _ _ _ _ from (RR.out.alloc (.cells #[.string x, .int .i64 (n : Int)] 49)).step (below_drewN (Below.refl _ _) _)), (show Aside _ from fun j hj => ?_)⟩
                                                by_cases e : j = (m + 1)
                                                · subst e; exact CL.out
                                                · exact A.out j (by omega)
                                · obtain rfl : kk = es.length := by omega
                                  have HV := Lib.hid (HE.out.2 A.out)
                                  go_wp2
                                  go_ret
                                  exact ⟨ret_int (by rw [HN.out, HV.out]), RR.out.b⟩
                          · have HN2 : Hid (r = r4) := Lib.hid (by rw [HN.out]; unfold or4; simp [h4])
                            replace HN := HN2
                            have h4b : (r4 != 0) = true := by simpa using h4
                            have h4c : (r4 == 0) = false := by simpa using h4
                            clear h4 HES HE2
                            go_enter Try.func23, Try.ntmps23
                            go_wp2_with fail
                            refine (D3.out _ HR.out.b).mono ?_
                            rintro e w1 ⟨rfl, b1⟩
                            have S1 := HR.out.step b1
                            have R1 := Lib.hid (S1.alloc (.cells #[.int .i64 0, .int .i64 r3b] 27))
                            obtain ⟨_, e0, e1, e2, e3, e4, e5, e6, e7, et⟩ := RS.full S1
                            have l1 := S1.lt
                            have l2 := S1.t.lt
                            clear b1 S1
                            go_wp2_with fail
                            clear e0 e1 e2 e3 e4 e5 e6 e7 et l1 l2
                            refine (D4.out _ R1.out.b).mono ?_
                            rintro e w2 ⟨rfl, b2⟩
                            have S2 := R1.out.step b2
                            have R2 := Lib.hid (S2.alloc (.cells #[.int .i64 r4, .int .i64 r4b] 27))
                            obtain ⟨_, e0, e1, e2, e3, e4, e5, e6, e7, et⟩ := RS.full S2
                            have l1 := S2.lt
                            have l2 := S2.t.lt
                            clear b2 S2
                            go_wp2
                            go_ret
                            exact ⟨ret_int HN.out.symm, R2.out.b⟩
                        · have HN2 : Hid (r = r3) := Lib.hid (by rw [HN.out]; unfold or4; simp [h3])
                          replace HN := HN2
                          have h3b : (r3 != 0) = true := by simpa using h3
                          have h3c : (r3 == 0) = false := by simpa using h3
                          clear h3 HES HE2
                          go_enter Try.func23, Try.ntmps23
                          go_wp2_with fail
                          refine (D3.out _ HR.out.b).mono ?_
                          rintro e w1 ⟨rfl, b1⟩
                          have S1 := HR.out.step b1
                          have R1 := Lib.hid (S1.alloc (.cells #[.int .i64 r3, .int .i64 r3b] 27))
                          obtain ⟨_, e0, e1, e2, e3, e4, e5, e6, e7, et⟩ := RS.full S1
                          have l1 := S1.lt
                          have l2 := S1.t.lt
                          clear b1 S1
                          go_wp2
                          go_ret
                          exact ⟨ret_int HN.out.symm, R1.out.b⟩
                    · by_cases he : 0 < es.length
                      · rw [if_pos (.inr ⟨by decide, .inl he⟩)] at HC
                        have HN2 : Hid (r = 5) := Lib.hid (by rw [HN.out, HC.out]; rfl)
                        replace HN := HN2
                        have he2 : (0 : Int) < (es.length : Int) := by omega
                        go_enter Try.func23, Try.ntmps23
                        go_wp2
                        go_ret
                        exact ⟨ret_int HN.out.symm, HR.out.b⟩
                      · obtain rfl : es = [] := List.eq_nil_of_length_eq_zero (by omega)
                        by_cases hq : q = 0
                        · subst hq
                          rw [if_neg (by simp)] at HC
                          by_cases hd : 200 < dl
                          · rw [if_pos hd] at HC
                            have HN2 : Hid (r = 10) := Lib.hid (by rw [HN.out, HC.out]; rfl)
                            replace HN := HN2
                            have hd2 : (200 : Int) < (dl : Int) := by omega
                            have hln : (([] : List DE).length) = 0 := rfl
                            simp only [hln] at *
                            go_enter Try.func23, Try.ntmps23
                            go_wp2
                            go_ret
                            exact ⟨ret_int HN.out.symm, HR.out.b⟩
                          · rw [if_neg hd] at HC
                            have hd2 : decide ((200 : Int) < (dl : Int)) = false := by rw [decide_eq_false_iff_not]; omega
                            have hln : (([] : List DE).length) = 0 := rfl
                            simp only [hln] at *
                            clear hd he
                            have hr2 := HC.out
                            subst hr2
                            clear HC
                            by_cases h3 : r3 = 0
                            · subst h3
                              by_cases h4 : r4 = 0
                              · subst h4
                                have HN2 : Hid (r = r5) := Lib.hid (by rw [HN.out]; unfold or4; simp)
                                replace HN := HN2
                                have hr5 := (HES.out (by simp)).2 (fun j hj => absurd hj (by simp))
                                subst hr5
                                clear HES HE2
                                go_enter Try.func23, Try.ntmps23
                                go_wp2_with fail
                                refine (D3.out _ HR.out.b).mono ?_
                                rintro e w1 ⟨rfl, b1⟩
                                have S1 := HR.out.step b1
                                have R1 := Lib.hid (S1.alloc (.cells #[.int .i64 0, .int .i64 r3b] 27))
                                obtain ⟨_, e0, e1, e2, e3, e4, e5, e6, e7, et⟩ := RS.full S1
                                have l1 := S1.lt
                                have l2 := S1.t.lt
                                clear b1 S1
                                go_wp2_with fail
                                clear e0 e1 e2 e3 e4 e5 e6 e7 et l1 l2
                                refine (D4.out _ R1.out.b).mono ?_
                                rintro e w2 ⟨rfl, b2⟩
                                have S2 := R1.out.step b2
                                have R2 := Lib.hid (S2.alloc (.cells #[.int .i64 0, .int .i64 r4b] 27))
                                obtain ⟨_, e0, e1, e2, e3, e4, e5, e6, e7, et⟩ := RS.full S2
                                have l1 := S2.lt
                                have l2 := S2.t.lt
                                clear b2 S2
                                go_wp2_with fail
                                clear e0 e1 e2 e3 e4 e5 e6 e7 et l1 l2
                                go_loopg [7, 8] 0 (fun gg s7 _ wr => s7 = .int .i64 0 ∧ Aside (RS w wr (w.heap.size + 1) w.heap.size (.slice a t.length c) (.slice ea 0 ec) (.slice da dl dc) (.slice aa ac.length acp) (.slice xa xs.length xc) ⟨2, ow, [], dl, ac, xs, 0, v⟩))
                                case atStart => exact ⟨rfl, R2.out⟩
                                case round =>
                                  obtain ⟨rfl, RR⟩ := hrel
                                  clear R1 R2
                                  obtain ⟨_, e0, e1, e2, e3, e4, e5, e6, e7, et⟩ := RS.full RR.out
                                  have l1 := RR.out.lt
                                  have l2 := RR.out.t.lt
                                  go_wp2
                                  go_ret
                                  exact ⟨ret_int HN.out.symm, RR.out.b⟩
                              · have HN2 : Hid (r = r4) := Lib.hid (by rw [HN.out]; unfold or4; simp [h4])
                                replace HN := HN2
                                have h4b : (r4 != 0) = true := by simpa using h4
                                have h4c : (r4 == 0) = false := by simpa using h4
                                clear h4 HES HE2
                                go_enter Try.func23, Try.ntmps23
                                go_wp2_with fail
                                refine (D3.out _ HR.out.b).mono ?_
                                rintro e w1 ⟨rfl, b1⟩
                                have S1 := HR.out.step b1
                                have R1 := Lib.hid (S1.alloc (.cells #[.int .i64 0, .int .i64 r3b] 27))
                                obtain ⟨_, e0, e1, e2, e3, e4, e5, e6, e7, et⟩ := RS.full S1
                                have l1 := S1.lt
                                have l2 := S1.t.lt
                                clear b1 S1
                                go_wp2_with fail
                                clear e0 e1 e2 e3 e4 e5 e6 e7 et l1 l2
                                refine (D4.out _ R1.out.b).mono ?_
                                rintro e w2 ⟨rfl, b2⟩
                                have S2 := R1.out.step b2
                                have R2 := Lib.hid (S2.alloc (.cells #[.int .i64 r4, .int .i64 r4b] 27))
                                obtain ⟨_, e0, e1, e2, e3, e4, e5, e6, e7, et⟩ := RS.full S2
                                have l1 := S2.lt
                                have l2 := S2.t.lt
                                clear b2 S2
                                go_wp2
                                go_ret
                                exact ⟨ret_int HN.out.symm, R2.out.b⟩
                            · have HN2 : Hid (r = r3) := Lib.hid (by rw [HN.out]; unfold or4; simp [h3])
                              replace HN := HN2
                              have h3b : (r3 != 0) = true := by simpa using h3
                              have h3c : (r3 == 0) = false := by simpa using h3
                              clear h3 HES HE2
                              go_enter Try.func23, Try.ntmps23
                              go_wp2_with fail
                              refine (D3.out _ HR.out.b).mono ?_
                              rintro e w1 ⟨rfl, b1⟩
                              have S1 := HR.out.step b1
                              have R1 := Lib.hid (S1.alloc (.cells #[.int .i64 r3, .int .i64 r3b] 27))
                              obtain ⟨_, e0, e1, e2, e3, e4, e5, e6, e7, et⟩ := RS.full S1
                              have l1 := S1.lt
                              have l2 := S1.t.lt
                              clear b1 S1
                              go_wp2
                              go_ret
                              exact ⟨ret_int HN.out.symm, R1.out.b⟩
                        · rw [if_pos (.inr ⟨by decide, .inr hq⟩)] at HC
                          have HN2 : Hid (r = 5) := Lib.hid (by rw [HN.out, HC.out]; rfl)
                          replace HN := HN2
                          have hq2 : (q != 0) = true := by simpa using hq
                          have hln : (([] : List DE).length) = 0 := rfl
                          simp only [hln] at *
                          clear hq
                          go_enter Try.func23, Try.ntmps23
                          go_wp2
                          go_ret
                          exact ⟨ret_int HN.out.symm, HR.out.b⟩

end Go.Proofs.Ytndhhofidkaomaa
