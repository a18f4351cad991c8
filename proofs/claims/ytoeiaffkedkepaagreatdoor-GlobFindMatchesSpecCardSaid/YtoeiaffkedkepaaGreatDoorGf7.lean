/- GlobFindMatchesSpec: for every tree and every pattern the law returns true.
   Condition: as each theorem states; this text: FsInode, FsLink, FsVTree. -/
import Derived.Test.YtoeiaffkedkepaaGreatDoorGf4
import Derived.Test.YtoeiaffkedkepaaGreatDoorGf3
import Derived.Deep.Quiet
import Derived.IntWalk
import Derived.Test.YtoeiaffkedkepaaGreatDoorGf6

/- The reference's isZero and inodeCode at every inode: the same code as the program's. Conditions: the tree's cells lie in memory as they read. -/
namespace Go.Proofs.YtoeiaffkedkepaaGreatDoor
open Go.RowKit

set_option maxHeartbeats 1600000 in
theorem isZero_any (x : Nod) (ve vd va vx : Value) (w : World) (h : NodS w w.heap.size ve vd va vx x) :
    Calls Tryz.prog 40 #[.agg #[.int .i64 x.k, .int .i64 x.o, ve, vd, va, vx, .int .i64 x.q, .int .i64 x.v]] w fun e w' => e = .returned (.bool (decide (codeF x = 0))) ∧ Below w.heap.size w w' := by
  obtain ⟨⟨ea, ec, rfl, hec, hel, _, _⟩, ⟨da, dc, rfl, hdc⟩, hdl, ⟨aa, acp, rfl, hacc, hacl, _, _⟩, ⟨xa, xc, rfl, hxc, hxl, _, _⟩, _, _, _, _⟩ := h
  have HC : Hid (decide (codeF x = 0) = decide (x.es.length + x.dl + x.ac.length + x.xs.length = 0 ∧ x.o = 0 ∧ x.q = 0 ∧ x.v = 0)) := Lib.hid (by
    unfold codeF
    split
    · rename_i h; simp [h]
    · rename_i h; rw [decide_eq_false h]; rfl)
  generalize decide (codeF x = 0) = r at *
  generalize x.es.length = n1 at *
  generalize x.dl = n2 at *
  generalize x.ac.length = n3 at *
  generalize x.xs.length = n4 at *
  obtain ⟨k, o, es, dl, ac, xs, q, v⟩ := x
  simp only at *
  by_cases h_o : o = 0
  · subst h_o
    by_cases h_q : q = 0
    · subst h_q
      by_cases h_v : v = 0
      · subst h_v
        by_cases h_n1 : n1 = 0
        · subst h_n1
          by_cases h_n2 : n2 = 0
          · subst h_n2
            by_cases h_n3 : n3 = 0
            · subst h_n3
              by_cases h_n4 : n4 = 0
              · subst h_n4
                rw [decide_eq_true (by simp)] at HC
                go_enter Tryz.func40, Tryz.ntmps40
                go_wp2
                go_ret
                exact ⟨ret_bool (by rw [HC.out]), (Below.refl _ _).alloc (Nat.le_refl _) _⟩
              · rw [decide_eq_false (by omega)] at HC
                have b_n4 : ((n4 : Int) == 0) = false := by rw [beq_eq_false_iff_ne]; omega
                go_enter Tryz.func40, Tryz.ntmps40
                go_wp2
                go_ret
                exact ⟨ret_bool (by rw [HC.out]), (Below.refl _ _).alloc (Nat.le_refl _) _⟩
            · rw [decide_eq_false (by omega)] at HC
              have b_n3 : ((n3 : Int) == 0) = false := by rw [beq_eq_false_iff_ne]; omega
              go_enter Tryz.func40, Tryz.ntmps40
              go_wp2
              go_ret
              exact ⟨ret_bool (by rw [HC.out]), (Below.refl _ _).alloc (Nat.le_refl _) _⟩
          · rw [decide_eq_false (by omega)] at HC
            have b_n2 : ((n2 : Int) == 0) = false := by rw [beq_eq_false_iff_ne]; omega
            go_enter Tryz.func40, Tryz.ntmps40
            go_wp2
            go_ret
            exact ⟨ret_bool (by rw [HC.out]), (Below.refl _ _).alloc (Nat.le_refl _) _⟩
        · rw [decide_eq_false (by omega)] at HC
          have b_n1 : ((n1 : Int) == 0) = false := by rw [beq_eq_false_iff_ne]; omega
          go_enter Tryz.func40, Tryz.ntmps40
          go_wp2
          go_ret
          exact ⟨ret_bool (by rw [HC.out]), (Below.refl _ _).alloc (Nat.le_refl _) _⟩
      · rw [decide_eq_false (by omega)] at HC
        have b_v : (v == 0) = false := by simpa using h_v
        go_enter Tryz.func40, Tryz.ntmps40
        go_wp2
        go_ret
        exact ⟨ret_bool (by rw [HC.out]), (Below.refl _ _).alloc (Nat.le_refl _) _⟩
    · rw [decide_eq_false (by omega)] at HC
      have b_q : (q == 0) = false := by simpa using h_q
      go_enter Tryz.func40, Tryz.ntmps40
      go_wp2
      go_ret
      exact ⟨ret_bool (by rw [HC.out]), (Below.refl _ _).alloc (Nat.le_refl _) _⟩
  · rw [decide_eq_false (by omega)] at HC
    have b_o : (o == 0) = false := by simpa using h_o
    go_enter Tryz.func40, Tryz.ntmps40
    go_wp2
    go_ret
    exact ⟨ret_bool (by rw [HC.out]), (Below.refl _ _).alloc (Nat.le_refl _) _⟩

set_option maxRecDepth 100000 in
set_option maxHeartbeats 8000000 in
theorem inodeCode_any (a : Option Addr) (c : Nat) (t : Tr) (x : Nod) (ve vd va vx : Value) (w : World) (ht : Nods w w.heap.size a c t) (h : NodS w w.heap.size ve vd va vx x) :
    Calls Tryz.prog 21 #[.agg #[.slice a t.length c], .agg #[.int .i64 x.k, .int .i64 x.o, ve, vd, va, vx, .int .i64 x.q, .int .i64 x.v]] w fun e w' => e = .returned (.int .i64 (codeN t x)) ∧ Below w.heap.size w w' := by
  obtain ⟨ea, ec, rfl, hec, hel, hef, hex⟩ := h.es
  obtain ⟨da, dc, rfl, _⟩ := h.dl
  obtain ⟨aa, acp, rfl⟩ : ∃ aa ac, va = .slice aa x.ac.length ac := by obtain ⟨da, dc, e, _⟩ := h.ac; exact ⟨da, dc, e⟩
  obtain ⟨xa, xc, rfl⟩ : ∃ xa xc, vx = .slice xa x.xs.length xc := by obtain ⟨da, dc, e, _⟩ := h.xs; exact ⟨da, dc, e⟩
  have hll := ht.len
  have HN := Lib.hid (show codeN t x = if x.k = 0 then codeF x else if x.k = 1 ∨ x.k = 2 then or4 (codeC x) (valF x.ac).1 (valA x.xs).1 (codeEs t x.es) else 4 from rfl)
  have HC := Lib.hid (show codeC x = if ¬ (0 ≤ x.o ∧ x.o ≤ 7) ∨ ¬ (0 ≤ x.v ∧ x.v ≤ 1000000) ∨ ¬ (0 ≤ x.q ∧ x.q ≤ 100000) then 3
    else if (x.k = 1 ∧ 0 < x.dl) ∨ (x.k ≠ 1 ∧ (0 < x.es.length ∨ x.q ≠ 0)) then 5
    else if 200 < x.dl then 10 else 0 from rfl)
  have HZ := Lib.hid (show codeF x = 0 ∨ codeF x = 5 from by unfold codeF; split; exact .inl rfl; exact .inr rfl)
  have D1 := Lib.hid (fun W (hb : Below w.heap.size w W) => isZero_any x _ _ _ _ W (h.up hb))
  have D3 := Lib.hid (fun W (hb : Below w.heap.size w W) => refValid_any _ x.ac W ((h.up hb).ac))
  have D4 := Lib.hid (fun W (hb : Below w.heap.size w W) => refValidate_any _ x.xs W ((h.up hb).xs))
  unfold valV faultV at D3
  unfold valAV faultV at D4
  have HX := Lib.hid hex
  have HFT := Lib.hid hef
  have HT := Lib.hid ht
  have HR := Lib.hid (show RS w ((w.alloc (.cells #[.slice a t.length c] 24)).alloc (.cells #[.int .i64 x.k, .int .i64 x.o, .slice ea x.es.length ec, .slice da x.dl dc, .slice aa x.ac.length acp, .slice xa x.xs.length xc, .int .i64 x.q, .int .i64 x.v] 50)) (w.heap.size + 1) w.heap.size (.slice a t.length c) (.slice ea x.es.length ec) (.slice da x.dl dc) (.slice aa x.ac.length acp) (.slice xa x.xs.length xc) x from
    ⟨((Below.refl _ _).alloc (Nat.le_refl _) _).alloc (by simp) _, by simp, by simpa using NodC.new (w.alloc (.cells #[.slice a t.length c] 24)) x (.slice ea x.es.length ec) (.slice da x.dl dc) (.slice aa x.ac.length acp) (.slice xa x.xs.length xc) 50, (One.new w _ _).alloc _⟩)
  have HES := Lib.hid (fun (hn : ¬ 16 < x.es.length) => (⟨fun k c hk hc hn2 hA => codeEs_hit (t := t) hn (k := k) (c := c) hk hc hn2 hA, codeEs_miss (t := t) hn⟩ : (∀ k c, k < x.es.length → codeAt t x.es k = c → ¬ c = 0 → (∀ j, j < k → codeAt t x.es j = 0) → codeEs t x.es = c) ∧ ((∀ j, j < x.es.length → codeAt t x.es j = 0) → codeEs t x.es = 0)))
  have HE2 := Lib.hid (show 16 < x.es.length → codeEs t x.es = 2 from fun h => by unfold codeEs; rw [if_pos h])
  clear ht h hex hef
  generalize codeN t x = r at *
  generalize codeF x = r1 at *
  generalize codeC x = r2 at *
  generalize (valF x.ac).1 = r3 at *
  generalize (valF x.ac).2 = r3b at *
  generalize (valA x.xs).1 = r4 at *
  generalize (valA x.xs).2 = r4b at *
  generalize codeEs t x.es = r5 at *
  obtain ⟨k, ow, es, dl, ac, xs, q, v⟩ := x
  simp only at *
  obtain ⟨hRR, e0, e1, e2, e3, e4, e5, e6, e7, et⟩ := RS.full HR.out
  clear hRR e0 e1 e2 e3 e4 e5 e6 e7 et
  by_cases ka : k < 0
  · rw [if_neg (by omega), if_neg (by omega)] at HN
    go_enter Tryz.func21, Tryz.ntmps21
    go_wp2
    go_ret
    exact ⟨ret_int HN.out.symm, HR.out.b⟩
  · have ka1 : decide (k < 0) = false := by rw [decide_eq_false_iff_not]; exact ka
    by_cases kb : 2 < k
    · rw [if_neg (by omega), if_neg (by omega)] at HN
      go_enter Tryz.func21, Tryz.ntmps21
      go_wp2
      go_ret
      exact ⟨ret_int HN.out.symm, HR.out.b⟩
    · have kb1 : decide (2 < k) = false := by rw [decide_eq_false_iff_not]; exact kb
      by_cases k0 : k = 0
      · subst k0
        rw [if_pos rfl] at HN
        rcases HZ.out with hz | hz
        · subst hz
          simp only [decide_true] at D1
          go_enter Tryz.func21, Tryz.ntmps21
          go_wp2_with fail
          refine (D1.out _ HR.out.b).mono ?_
          rintro e w2 ⟨rfl, b2⟩
          have B2 := Lib.hid (HR.out.b.trans (b2.mono HR.out.b.size))
          clear b2
          go_wp2
          go_ret
          exact ⟨ret_int HN.out.symm, B2.out⟩
        · subst hz
          rw [decide_eq_false (by decide)] at D1
          go_enter Tryz.func21, Tryz.ntmps21
          go_wp2_with fail
          refine (D1.out _ HR.out.b).mono ?_
          rintro e w2 ⟨rfl, b2⟩
          have B2 := Lib.hid (HR.out.b.trans (b2.mono HR.out.b.size))
          clear b2
          go_wp2
          go_ret
          exact ⟨ret_int HN.out.symm, B2.out⟩
      · have k01 : (k == 0) = false := by simpa using k0
        have k12 : k = 1 ∨ k = 2 := by omega
        rw [if_neg k0, if_pos k12] at HN
        clear D1 HZ
        by_cases o0 : ow < 0
        · rw [if_pos (by omega)] at HC
          have HN2 : Hid (r = 3) := Lib.hid (by rw [HN.out, HC.out]; rfl)
          replace HN := HN2
          clear k0 k12 ka kb
          go_enter Tryz.func21, Tryz.ntmps21
          go_wp2
          go_ret
          exact ⟨ret_int HN.out.symm, HR.out.b⟩
        · have o0b : decide (ow < 0) = false := by rw [decide_eq_false_iff_not]; exact o0
          by_cases o1 : 7 < ow
          · rw [if_pos (by omega)] at HC
            have HN2 : Hid (r = 3) := Lib.hid (by rw [HN.out, HC.out]; rfl)
            replace HN := HN2
            clear k0 k12 ka kb
            go_enter Tryz.func21, Tryz.ntmps21
            go_wp2
            go_ret
            exact ⟨ret_int HN.out.symm, HR.out.b⟩
          · have o1b : decide (7 < ow) = false := by rw [decide_eq_false_iff_not]; exact o1
            by_cases v0 : v < 0
            · rw [if_pos (by omega)] at HC
              have HN2 : Hid (r = 3) := Lib.hid (by rw [HN.out, HC.out]; rfl)
              replace HN := HN2
              clear k0 k12 ka kb
              go_enter Tryz.func21, Tryz.ntmps21
              go_wp2
              go_ret
              exact ⟨ret_int HN.out.symm, HR.out.b⟩
            · have v0b : decide (v < 0) = false := by rw [decide_eq_false_iff_not]; exact v0
              by_cases v1 : 1000000 < v
              · rw [if_pos (by omega)] at HC
                have HN2 : Hid (r = 3) := Lib.hid (by rw [HN.out, HC.out]; rfl)
                replace HN := HN2
                clear k0 k12 ka kb
                go_enter Tryz.func21, Tryz.ntmps21
                go_wp2
                go_ret
                exact ⟨ret_int HN.out.symm, HR.out.b⟩
              · have v1b : decide (1000000 < v) = false := by rw [decide_eq_false_iff_not]; exact v1
                by_cases q0 : q < 0
                · rw [if_pos (by omega)] at HC
                  have HN2 : Hid (r = 3) := Lib.hid (by rw [HN.out, HC.out]; rfl)
                  replace HN := HN2
                  clear k0 k12 ka kb
                  go_enter Tryz.func21, Tryz.ntmps21
                  go_wp2
                  go_ret
                  exact ⟨ret_int HN.out.symm, HR.out.b⟩
                · have q0b : decide (q < 0) = false := by rw [decide_eq_false_iff_not]; exact q0
                  by_cases q1 : 100000 < q
                  · rw [if_pos (by omega)] at HC
                    have HN2 : Hid (r = 3) := Lib.hid (by rw [HN.out, HC.out]; rfl)
                    replace HN := HN2
                    clear k0 k12 ka kb
                    go_enter Tryz.func21, Tryz.ntmps21
                    go_wp2
                    go_ret
                    exact ⟨ret_int HN.out.symm, HR.out.b⟩
                  · have q1b : decide (100000 < q) = false := by rw [decide_eq_false_iff_not]; exact q1
                    rw [if_neg (by omega)] at HC
                    clear o0 o1 v0 v1 q0 q1 ka kb k0
                    rcases k12 with rfl | rfl
                    · by_cases hd : 0 < dl
                      · rw [if_pos (.inl ⟨rfl, hd⟩)] at HC
                        have HN2 : Hid (r = 5) := Lib.hid (by rw [HN.out, HC.out]; rfl)
                        replace HN := HN2
                        have hd2 : (0 : Int) < (dl : Int) := by omega
                        go_enter Tryz.func21, Tryz.ntmps21
                        go_wp2
                        go_ret
                        exact ⟨ret_int HN.out.symm, HR.out.b⟩
                      · obtain rfl : dl = 0 := by omega
                        rw [if_neg (by simp), if_neg (by omega)] at HC
                        clear hd
                        have hr2 := HC.out
                        subst hr2
                        clear HC
                        by_cases h3 : r3 = 0
                        · subst h3
                          by_cases h4 : r4 = 0
                          · subst h4
                            have HN2 : Hid (r = r5) := Lib.hid (by rw [HN.out]; unfold or4; simp)
                            replace HN := HN2
                            by_cases h16 : 16 < es.length
                            · have hr5 := HE2.out h16
                              subst hr5
                              have h16b : (16 : Int) < (es.length : Int) := by omega
                              go_enter Tryz.func21, Tryz.ntmps21
                              go_wp2_with fail
                              refine (D3.out _ HR.out.b).mono ?_
                              rintro e w1 ⟨rfl, b1⟩
                              have S1 := HR.out.step b1
                              have R1 := Lib.hid (S1.alloc (.cells #[.int .i64 0, .int .i64 r3b] 28))
                              obtain ⟨_, e0, e1, e2, e3, e4, e5, e6, e7, et⟩ := RS.full S1
                              have l1 := S1.lt
                              have l2 := S1.t.lt
                              clear b1 S1
                              go_wp2_with fail
                              clear e0 e1 e2 e3 e4 e5 e6 e7 et l1 l2
                              refine (D4.out _ R1.out.b).mono ?_
                              rintro e w2 ⟨rfl, b2⟩
                              have S2 := R1.out.step b2
                              have R2 := Lib.hid (S2.alloc (.cells #[.int .i64 0, .int .i64 r4b] 28))
                              obtain ⟨_, e0, e1, e2, e3, e4, e5, e6, e7, et⟩ := RS.full S2
                              have l1 := S2.lt
                              have l2 := S2.t.lt
                              clear b2 S2
                              go_wp2
                              go_ret
                              exact ⟨ret_int HN.out.symm, R2.out.b⟩
                            · have h16b : decide ((16 : Int) < (es.length : Int)) = false := by rw [decide_eq_false_iff_not]; omega
                              have hes := HES.out h16
                              have HE := Lib.hid hes
                              clear hes HES HE2
                              go_enter Tryz.func21, Tryz.ntmps21
                              go_wp2_with fail
                              refine (D3.out _ HR.out.b).mono ?_
                              rintro e w1 ⟨rfl, b1⟩
                              have S1 := HR.out.step b1
                              have R1 := Lib.hid (S1.alloc (.cells #[.int .i64 0, .int .i64 r3b] 28))
                              obtain ⟨_, e0, e1, e2, e3, e4, e5, e6, e7, et⟩ := RS.full S1
                              have l1 := S1.lt
                              have l2 := S1.t.lt
                              clear b1 S1
                              go_wp2_with fail
                              clear e0 e1 e2 e3 e4 e5 e6 e7 et l1 l2
                              refine (D4.out _ R1.out.b).mono ?_
                              rintro e w2 ⟨rfl, b2⟩
                              have S2 := R1.out.step b2
                              have R2 := Lib.hid (S2.alloc (.cells #[.int .i64 0, .int .i64 r4b] 28))
                              obtain ⟨_, e0, e1, e2, e3, e4, e5, e6, e7, et⟩ := RS.full S2
                              have l1 := S2.lt
                              have l2 := S2.t.lt
                              clear b2 S2
                              go_wp2_with fail
                              clear e0 e1 e2 e3 e4 e5 e6 e7 et l1 l2 h16
                              go_loopg [7, 8] es.length (fun gg s7 _ wr => ∃ kk : Nat, kk ≤ es.length ∧ es.length - kk ≤ gg ∧ s7 = .int .i64 kk ∧ Aside (RS w wr (w.heap.size + 1) w.heap.size (.slice a t.length c) (.slice ea es.length ec) (.slice da 0 dc) (.slice aa ac.length acp) (.slice xa xs.length xc) ⟨1, ow, es, 0, ac, xs, q, v⟩) ∧ Aside (∀ j, j < kk → codeAt t es j = 0))
                              case atStart => exact ⟨0, by omega, by omega, rfl, R2.out, fun j hj => absurd hj (Nat.not_lt_zero _)⟩
                              case round =>
                                obtain ⟨kk, hkk, hg, rfl, RR, A⟩ := hrel
                                clear R1 R2
                                obtain ⟨_, e0, e1, e2, e3, e4, e5, e6, e7, et⟩ := RS.full RR.out
                                have l1 := RR.out.lt
                                have l2 := RR.out.t.lt
                                have hbs := RR.out.b.size
                                by_cases hlt : kk < es.length
                                · have hltz : (kk : Int) < (es.length : Int) := by omega
                                  have hk0 : (0 : Int) ≤ (kk : Int) := Int.natCast_nonneg _
                                  have hm9 : es.length - (kk + 1) < es.length - kk := Nat.sub_lt_sub_left hlt (Nat.lt_succ_self kk)
                                  obtain ⟨b, o, rfl, hb, hj⟩ := HX.out (by omega)
                                  have g0 : wr.cell? ⟨b, o + kk * 2, none⟩ = some (.string (es.getD kk D0).n) := (RR.out.b.cell (p := ⟨b, _, none⟩) hb).trans (hj kk hlt).1
                                  have g1 : wr.cell? ⟨b, o + kk * 2 + 1, none⟩ = some (.int .i64 (es.getD kk D0).i) := (RR.out.b.cell (p := ⟨b, _, none⟩) hb).trans (hj kk hlt).2
                                  have HP := Lib.hid (show 0 < kk → prevP ByteArray.empty es kk = (es.getD (kk - 1) D0).n ∧ wr.cell? ⟨b, o + (kk - 1) * 2, none⟩ = some (.string (es.getD (kk - 1) D0).n) from fun h0 => ⟨by unfold prevP; rw [if_neg (by omega)], (RR.out.b.cell (p := ⟨b, _, none⟩) hb).trans (hj (kk - 1) (by omega)).1⟩)
                                  have hfit := HFT.out (es.getD kk D0) (by rw [deD hlt]; exact List.getElem_mem hlt)
                                  clear hj
                                  generalize hy : es.getD kk D0 = y at g0 g1 hfit
                                  obtain ⟨x, i⟩ := y
                                  have CL := Lib.hid (codeAt_of (t := t) (p := prevP ByteArray.empty es kk) hy rfl)
                                  clear hy
                                  have hcall := Lib.hid (fun W => validName_any x W hfit.1)
                                  clear hfit
                                  cases hv : vname x with
                                  | false =>
                                    rw [hv] at hcall CL
                                    rw [if_pos rfl] at CL
                                    have HV := Lib.hid (HE.out.1 kk _ hlt CL.out (by decide) A.out)
                                    clear hv HP
                                    go_wp2_with fail
                                    refine (hcall.out _).mono ?_
                                    rintro e w' ⟨rfl, rfl⟩
                                    go_wp2
                                    go_ret
                                    exact ⟨ret_int (by rw [HN.out, HV.out]), RR.out.b.alloc hbs _⟩
                                  | true =>
                                    have hxne : x ≠ ByteArray.empty := fun e => by have := (vname_size hv).1; rw [e] at this; simp at this
                                    rw [hv] at hcall CL
                                    rw [if_neg (by simp)] at CL
                                    clear hv
                                    cases kk with
                                    | zero =>
                                      rw [if_neg (by unfold prevP; rw [if_pos rfl, ltS_empty]; simp [hxne])] at CL
                                      clear hxne HP
                                      have g0 : wr.cell? ⟨b, o, none⟩ = some (.string x) := by simpa using g0
                                      have g1 : wr.cell? ⟨b, o + 1, none⟩ = some (.int .i64 i) := by simpa using g1
                                      by_cases hi1 : i < 1
                                      · rw [if_pos (by by_cases e : i = 0; exact .inl e; exact .inr (used_out (by omega)))] at CL
                                        have HV := Lib.hid (HE.out.1 0 _ hlt CL.out (by decide) A.out)
                                        go_wp2_with fail
                                        refine (hcall.out _).mono ?_
                                        rintro e w' ⟨rfl, rfl⟩
                                        go_wp2_with fail
                                        go_quiet (fail)
                                        go_wp2
                                        go_ret
                                        exact ⟨ret_int (by rw [HN.out, HV.out]), below_drewN (RR.out.b.alloc hbs _) _⟩
                                      · have hi2 : decide (i < 1) = false := by rw [decide_eq_false_iff_not]; exact hi1
                                        by_cases hi3 : (t.length : Int) ≤ i
                                        · rw [if_pos (.inr (used_out (by omega)))] at CL
                                          have HV := Lib.hid (HE.out.1 0 _ hlt CL.out (by decide) A.out)
                                          clear hi1
                                          go_wp2_with fail
                                          refine (hcall.out _).mono ?_
                                          rintro e w' ⟨rfl, rfl⟩
                                          go_wp2_with fail
                                          go_quiet (fail)
                                          go_wp2
                                          go_ret
                                          exact ⟨ret_int (by rw [HN.out, HV.out]), below_drewN (RR.out.b.alloc hbs _) _⟩
                                        · have hi4 : decide ((t.length : Int) ≤ i) = false := by rw [decide_eq_false_iff_not]; exact hi3
                                          rw [used_at (by omega) (by omega)] at CL
                                          obtain ⟨n, rfl⟩ := Int.eq_ofNat_of_zero_le (show 0 ≤ i by omega)
                                          obtain ⟨b9, o9, ve9, vd9, va9, vx9, rfl, hb9, hc9, _⟩ := (HT.out.below RR.out.b).one (j := n) (by omega)
                                          have q0 := hc9.c0; have hb8 := Nat.lt_of_lt_of_le hb9 RR.out.b.size
                                          clear hc9
                                          have CLa := Lib.hid (show (nod t n).k = 0 → codeAt t es 0 = 3 from fun h => CL.out.trans (if_pos (.inr (by rw [Int.toNat_natCast, h]; rfl))))
                                          have CLb := Lib.hid (show (nod t n).k ≠ 0 → codeAt t es 0 = 0 from fun h => CL.out.trans (if_neg (fun h2 => h2.elim (fun h3 => absurd h3 (by omega)) (fun h3 => h (by rw [Int.toNat_natCast, bne_eq_false_iff_eq] at h3; exact h3)))))
                                          clear CL
                                          have n9 : (n : Int) < (t.length : Int) := by omega
                                          have n8 : (0 : Int) ≤ (n : Int) := Int.natCast_nonneg _
                                          have n7 : ¬ (n : Int) = 0 := by omega
                                          generalize (nod t n).k = k9 at *
                                          clear hi1 hi3
                                          by_cases hk9 : k9 = 0
                                          · subst hk9
                                            have CL := Lib.hid (CLa.out rfl)
                                            have HV := Lib.hid (HE.out.1 0 _ hlt CL.out (by decide) A.out)
                                            clear n7
                                            go_wp2_with fail
                                            refine (hcall.out _).mono ?_
                                            rintro e w' ⟨rfl, rfl⟩
                                            go_wp2_with fail
                                            go_quiet (fail)
                                            go_wp2
                                            go_ret
                                            exact ⟨ret_int (by rw [HN.out, HV.out]), below_drewN (RR.out.b.alloc hbs _) _⟩
                                          · have hk8 : (k9 == 0) = false := by simpa using hk9
                                            have CL := Lib.hid (CLb.out hk9)
                                            clear n7 hk9
                                            go_wp2_with fail
                                            refine (hcall.out _).mono ?_
                                            rintro e w' ⟨rfl, rfl⟩
                                            go_wp2_with fail
                                            go_quiet (fail)
                                            go_wp2_with fail
                                            go_roundg (es.length - (0 + 1))
                                            case measure => exact Nat.lt_of_lt_of_le hm9 hg
                                            case rel =>
                                              refine ⟨0 + 1, by omega, by omega, by go_num, (show RS w _ _ _ _ _ _ _ _ _ from (RR.out.alloc (.cells #[.string x, .int .i64 (n : Int)] 58)).step (below_drewN (Below.refl _ _) _)), (show Aside _ from fun j hj => ?_)⟩
                                              by_cases e : j = 0
                                              · subst e; exact CL.out
                                              · exact A.out j (by omega)
                                    | succ m =>
                                      obtain ⟨hp1, hp2⟩ := HP.out (by omega)
                                      rw [Nat.add_sub_cancel] at hp1 hp2
                                      rw [hp1] at CL
                                      generalize (es.getD m D0).n = p at CL hp2
                                      clear HP hp1 hxne
                                      have hmz : (m : Int) < (es.length : Int) := by omega
                                      have hm0 : (0 : Int) ≤ (m : Int) := Int.natCast_nonneg _
                                      have hb7 : b < wr.heap.size := Nat.lt_of_lt_of_le hb hbs
                                      have hwm : IntKind.i64.wrap (m : Int) = (m : Int) := IntWalk.i64_in _ (by omega)
                                      cases hlq : ltS p x with
                                      | false =>
                                        rw [hlq, if_pos rfl] at CL
                                        have hle : (Op.bytesLess x.toList p.toList || x.toList == p.toList) = true := by rw [leqS, hlq]; rfl
                                        have HV := Lib.hid (HE.out.1 (m + 1) _ hlt CL.out (by decide) A.out)
                                        clear hlq
                                        go_wp2_with fail
                                        refine (hcall.out _).mono ?_
                                        rintro e w' ⟨rfl, rfl⟩
                                        go_wp2_with fail
                                        go_quiet (fail)
                                        go_wp2
                                        go_ret
                                        exact ⟨ret_int (by rw [HN.out, HV.out]), below_drewN (RR.out.b.alloc hbs _) _⟩
                                      | true =>
                                        rw [hlq, if_neg (by simp)] at CL
                                        have hle : (Op.bytesLess x.toList p.toList || x.toList == p.toList) = false := by rw [leqS, hlq]; rfl
                                        clear hlq
                                        by_cases hi1 : i < 1
                                        · rw [if_pos (by by_cases e : i = 0; exact .inl e; exact .inr (used_out (by omega)))] at CL
                                          have HV := Lib.hid (HE.out.1 (m + 1) _ hlt CL.out (by decide) A.out)
                                          go_wp2_with fail
                                          refine (hcall.out _).mono ?_
                                          rintro e w' ⟨rfl, rfl⟩
                                          go_wp2_with fail
                                          go_quiet (fail)
                                          go_wp2
                                          go_ret
                                          exact ⟨ret_int (by rw [HN.out, HV.out]), below_drewN (RR.out.b.alloc hbs _) _⟩
                                        · have hi2 : decide (i < 1) = false := by rw [decide_eq_false_iff_not]; exact hi1
                                          by_cases hi3 : (t.length : Int) ≤ i
                                          · rw [if_pos (.inr (used_out (by omega)))] at CL
                                            have HV := Lib.hid (HE.out.1 (m + 1) _ hlt CL.out (by decide) A.out)
                                            clear hi1
                                            go_wp2_with fail
                                            refine (hcall.out _).mono ?_
                                            rintro e w' ⟨rfl, rfl⟩
                                            go_wp2_with fail
                                            go_quiet (fail)
                                            go_wp2
                                            go_ret
                                            exact ⟨ret_int (by rw [HN.out, HV.out]), below_drewN (RR.out.b.alloc hbs _) _⟩
                                          · have hi4 : decide ((t.length : Int) ≤ i) = false := by rw [decide_eq_false_iff_not]; exact hi3
                                            rw [used_at (by omega) (by omega)] at CL
                                            obtain ⟨n, rfl⟩ := Int.eq_ofNat_of_zero_le (show 0 ≤ i by omega)
                                            obtain ⟨b9, o9, ve9, vd9, va9, vx9, rfl, hb9, hc9, _⟩ := (HT.out.below RR.out.b).one (j := n) (by omega)
                                            have q0 := hc9.c0; have hb8 := Nat.lt_of_lt_of_le hb9 RR.out.b.size
                                            clear hc9
                                            have CLa := Lib.hid (show (nod t n).k = 0 → codeAt t es (m + 1) = 3 from fun h => CL.out.trans (if_pos (.inr (by rw [Int.toNat_natCast, h]; rfl))))
                                            have CLb := Lib.hid (show (nod t n).k ≠ 0 → codeAt t es (m + 1) = 0 from fun h => CL.out.trans (if_neg (fun h2 => h2.elim (fun h3 => absurd h3 (by omega)) (fun h3 => h (by rw [Int.toNat_natCast, bne_eq_false_iff_eq] at h3; exact h3)))))
                                            clear CL
                                            have n9 : (n : Int) < (t.length : Int) := by omega
                                            have n8 : (0 : Int) ≤ (n : Int) := Int.natCast_nonneg _
                                            have n7 : ¬ (n : Int) = 0 := by omega
                                            generalize (nod t n).k = k9 at *
                                            clear hi1 hi3
                                            by_cases hk9 : k9 = 0
                                            · subst hk9
                                              have CL := Lib.hid (CLa.out rfl)
                                              have HV := Lib.hid (HE.out.1 (m + 1) _ hlt CL.out (by decide) A.out)
                                              clear n7
                                              go_wp2_with fail
                                              refine (hcall.out _).mono ?_
                                              rintro e w' ⟨rfl, rfl⟩
                                              go_wp2_with fail
                                              go_quiet (fail)
                                              go_wp2
                                              go_ret
                                              exact ⟨ret_int (by rw [HN.out, HV.out]), below_drewN (RR.out.b.alloc hbs _) _⟩
                                            · have hk8 : (k9 == 0) = false := by simpa using hk9
                                              have CL := Lib.hid (CLb.out hk9)
                                              clear n7 hk9
                                              go_wp2_with fail
                                              refine (hcall.out _).mono ?_
                                              rintro e w' ⟨rfl, rfl⟩
                                              go_wp2_with fail
                                              go_quiet (fail)
                                              go_wp2_with fail
                                              go_roundg (es.length - ((m + 1) + 1))
                                              case measure => exact Nat.lt_of_lt_of_le hm9 hg
                                              case rel =>
                                                refine ⟨(m + 1) + 1, by omega, by omega, by go_num, (show RS w _ _ _ _ _ _ _ _ _ from (RR.out.alloc (.cells #[.string x, .int .i64 (n : Int)] 58)).step (below_drewN (Below.refl _ _) _)), (show Aside _ from fun j hj => ?_)⟩
                                                by_cases e : j = (m + 1)
                                                · subst e; exact CL.out
                                                · exact A.out j (by omega)
                                · obtain rfl : kk = es.length := by omega
                                  have HV := Lib.hid (HE.out.2 A.out)
                                  go_wp2
                                  go_ret
                                  exact ⟨ret_int (by rw [HN.out, HV.out]), RR.out.b⟩
                          · have HN2 : Hid (r = r4) := Lib.hid (by rw [HN.out]; unfold or4; simp [h4])
                            replace HN := HN2
                            have h4b : (r4 != 0) = true := by simpa using h4
                            have h4c : (r4 == 0) = false := by simpa using h4
                            clear h4 HES HE2
                            go_enter Tryz.func21, Tryz.ntmps21
                            go_wp2_with fail
                            refine (D3.out _ HR.out.b).mono ?_
                            rintro e w1 ⟨rfl, b1⟩
                            have S1 := HR.out.step b1
                            have R1 := Lib.hid (S1.alloc (.cells #[.int .i64 0, .int .i64 r3b] 28))
                            obtain ⟨_, e0, e1, e2, e3, e4, e5, e6, e7, et⟩ := RS.full S1
                            have l1 := S1.lt
                            have l2 := S1.t.lt
                            clear b1 S1
                            go_wp2_with fail
                            clear e0 e1 e2 e3 e4 e5 e6 e7 et l1 l2
                            refine (D4.out _ R1.out.b).mono ?_
                            rintro e w2 ⟨rfl, b2⟩
                            have S2 := R1.out.step b2
                            have R2 := Lib.hid (S2.alloc (.cells #[.int .i64 r4, .int .i64 r4b] 28))
                            obtain ⟨_, e0, e1, e2, e3, e4, e5, e6, e7, et⟩ := RS.full S2
                            have l1 := S2.lt
                            have l2 := S2.t.lt
                            clear b2 S2
                            go_wp2
                            go_ret
                            exact ⟨ret_int HN.out.symm, R2.out.b⟩
                        · have HN2 : Hid (r = r3) := Lib.hid (by rw [HN.out]; unfold or4; simp [h3])
                          replace HN := HN2
                          have h3b : (r3 != 0) = true := by simpa using h3
                          have h3c : (r3 == 0) = false := by simpa using h3
                          clear h3 HES HE2
                          go_enter Tryz.func21, Tryz.ntmps21
                          go_wp2_with fail
                          refine (D3.out _ HR.out.b).mono ?_
                          rintro e w1 ⟨rfl, b1⟩
                          have S1 := HR.out.step b1
                          have R1 := Lib.hid (S1.alloc (.cells #[.int .i64 r3, .int .i64 r3b] 28))
                          obtain ⟨_, e0, e1, e2, e3, e4, e5, e6, e7, et⟩ := RS.full S1
                          have l1 := S1.lt
                          have l2 := S1.t.lt
                          clear b1 S1
                          go_wp2
                          go_ret
                          exact ⟨ret_int HN.out.symm, R1.out.b⟩
                    · by_cases he : 0 < es.length
                      · rw [if_pos (.inr ⟨by decide, .inl he⟩)] at HC
                        have HN2 : Hid (r = 5) := Lib.hid (by rw [HN.out, HC.out]; rfl)
                        replace HN := HN2
                        have he2 : (0 : Int) < (es.length : Int) := by omega
                        go_enter Tryz.func21, Tryz.ntmps21
                        go_wp2
                        go_ret
                        exact ⟨ret_int HN.out.symm, HR.out.b⟩
                      · obtain rfl : es = [] := List.eq_nil_of_length_eq_zero (by omega)
                        by_cases hq : q = 0
                        · subst hq
                          rw [if_neg (by simp)] at HC
                          by_cases hd : 200 < dl
                          · rw [if_pos hd] at HC
                            have HN2 : Hid (r = 10) := Lib.hid (by rw [HN.out, HC.out]; rfl)
                            replace HN := HN2
                            have hd2 : (200 : Int) < (dl : Int) := by omega
                            have hln : (([] : List DE).length) = 0 := rfl
                            simp only [hln] at *
                            go_enter Tryz.func21, Tryz.ntmps21
                            go_wp2
                            go_ret
                            exact ⟨ret_int HN.out.symm, HR.out.b⟩
                          · rw [if_neg hd] at HC
                            have hd2 : decide ((200 : Int) < (dl : Int)) = false := by rw [decide_eq_false_iff_not]; omega
                            have hln : (([] : List DE).length) = 0 := rfl
                            simp only [hln] at *
                            clear hd he
                            have hr2 := HC.out
                            subst hr2
                            clear HC
                            by_cases h3 : r3 = 0
                            · subst h3
                              by_cases h4 : r4 = 0
                              · subst h4
                                have HN2 : Hid (r = r5) := Lib.hid (by rw [HN.out]; unfold or4; simp)
                                replace HN := HN2
                                have hr5 := (HES.out (by simp)).2 (fun j hj => absurd hj (by simp))
                                subst hr5
                                clear HES HE2
                                go_enter Tryz.func21, Tryz.ntmps21
                                go_wp2_with fail
                                refine (D3.out _ HR.out.b).mono ?_
                                rintro e w1 ⟨rfl, b1⟩
                                have S1 := HR.out.step b1
                                have R1 := Lib.hid (S1.alloc (.cells #[.int .i64 0, .int .i64 r3b] 28))
                                obtain ⟨_, e0, e1, e2, e3, e4, e5, e6, e7, et⟩ := RS.full S1
                                have l1 := S1.lt
                                have l2 := S1.t.lt
                                clear b1 S1
                                go_wp2_with fail
                                clear e0 e1 e2 e3 e4 e5 e6 e7 et l1 l2
                                refine (D4.out _ R1.out.b).mono ?_
                                rintro e w2 ⟨rfl, b2⟩
                                have S2 := R1.out.step b2
                                have R2 := Lib.hid (S2.alloc (.cells #[.int .i64 0, .int .i64 r4b] 28))
                                obtain ⟨_, e0, e1, e2, e3, e4, e5, e6, e7, et⟩ := RS.full S2
                                have l1 := S2.lt
                                have l2 := S2.t.lt
                                clear b2 S2
                                go_wp2_with fail
                                clear e0 e1 e2 e3 e4 e5 e6 e7 et l1 l2
                                go_loopg [7, 8] 0 (fun gg s7 _ wr => s7 = .int .i64 0 ∧ Aside (RS w wr (w.heap.size + 1) w.heap.size (.slice a t.length c) (.slice ea 0 ec) (.slice da dl dc) (.slice aa ac.length acp) (.slice xa xs.length xc) ⟨2, ow, [], dl, ac, xs, 0, v⟩))
                                case atStart => exact ⟨rfl, R2.out⟩
                                case round =>
                                  obtain ⟨rfl, RR⟩ := hrel
                                  clear R1 R2
                                  obtain ⟨_, e0, e1, e2, e3, e4, e5, e6, e7, et⟩ := RS.full RR.out
                                  have l1 := RR.out.lt
                                  have l2 := RR.out.t.lt
                                  go_wp2
                                  go_ret
                                  exact ⟨ret_int HN.out.symm, RR.out.b⟩
                              · have HN2 : Hid (r = r4) := Lib.hid (by rw [HN.out]; unfold or4; simp [h4])
                                replace HN := HN2
                                have h4b : (r4 != 0) = true := by simpa using h4
                                have h4c : (r4 == 0) = false := by simpa using h4
                                clear h4 HES HE2
                                go_enter Tryz.func21, Tryz.ntmps21
                                go_wp2_with fail
                                refine (D3.out _ HR.out.b).mono ?_
                                rintro e w1 ⟨rfl, b1⟩
                                have S1 := HR.out.step b1
                                have R1 := Lib.hid (S1.alloc (.cells #[.int .i64 0, .int .i64 r3b] 28))
                                obtain ⟨_, e0, e1, e2, e3, e4, e5, e6, e7, et⟩ := RS.full S1
                                have l1 := S1.lt
                                have l2 := S1.t.lt
                                clear b1 S1
                                go_wp2_with fail
                                clear e0 e1 e2 e3 e4 e5 e6 e7 et l1 l2
                                refine (D4.out _ R1.out.b).mono ?_
                                rintro e w2 ⟨rfl, b2⟩
                                have S2 := R1.out.step b2
                                have R2 := Lib.hid (S2.alloc (.cells #[.int .i64 r4, .int .i64 r4b] 28))
                                obtain ⟨_, e0, e1, e2, e3, e4, e5, e6, e7, et⟩ := RS.full S2
                                have l1 := S2.lt
                                have l2 := S2.t.lt
                                clear b2 S2
                                go_wp2
                                go_ret
                                exact ⟨ret_int HN.out.symm, R2.out.b⟩
                            · have HN2 : Hid (r = r3) := Lib.hid (by rw [HN.out]; unfold or4; simp [h3])
                              replace HN := HN2
                              have h3b : (r3 != 0) = true := by simpa using h3
                              have h3c : (r3 == 0) = false := by simpa using h3
                              clear h3 HES HE2
                              go_enter Tryz.func21, Tryz.ntmps21
                              go_wp2_with fail
                              refine (D3.out _ HR.out.b).mono ?_
                              rintro e w1 ⟨rfl, b1⟩
                              have S1 := HR.out.step b1
                              have R1 := Lib.hid (S1.alloc (.cells #[.int .i64 r3, .int .i64 r3b] 28))
                              obtain ⟨_, e0, e1, e2, e3, e4, e5, e6, e7, et⟩ := RS.full S1
                              have l1 := S1.lt
                              have l2 := S1.t.lt
                              clear b1 S1
                              go_wp2
                              go_ret
                              exact ⟨ret_int HN.out.symm, R1.out.b⟩
                        · rw [if_pos (.inr ⟨by decide, .inr hq⟩)] at HC
                          have HN2 : Hid (r = 5) := Lib.hid (by rw [HN.out, HC.out]; rfl)
                          replace HN := HN2
                          have hq2 : (q != 0) = true := by simpa using hq
                          have hln : (([] : List DE).length) = 0 := rfl
                          simp only [hln] at *
                          clear hq
                          go_enter Tryz.func21, Tryz.ntmps21
                          go_wp2
                          go_ret
                          exact ⟨ret_int HN.out.symm, HR.out.b⟩

end Go.Proofs.YtoeiaffkedkepaaGreatDoor

/- The reference's LinkCount: how many entries refer to an inode. Conditions: the tree's inodes are valid by themselves; its cells lie in memory as they read. -/
namespace Go.Proofs.YtoeiaffkedkepaaGreatDoor
open Go.RowKit

theorem cnt_step {t : Tr} {i k n q : Nat} {x : ByteArray} {ei : Int} (hk : k < (kids t i).length) (he : (kids t i).getD k D0 = ⟨x, ei⟩) (hq : cntE (upto t i k) n = q) : cntE (upto t i (k + 1)) n = q + if ei = (n : Int) then 1 else 0 := by
  rw [upto_succ hk, cntE_snoc, he, hq]

set_option maxRecDepth 100000 in
set_option maxHeartbeats 3200000 in
theorem linkCount_any (a : Option Addr) (c : Nat) (t : Tr) (n : Nat) (w : World) (h1 : Ok1 t) (h : Nods w w.heap.size a c t) :
    Calls Tryz.prog 22 #[.agg #[.slice a t.length c], .int .i64 (n : Int)] w fun e w' => e = .returned (.int .i64 (refs t n : Nat)) ∧ Below w.heap.size w w' := by
  have H := Lib.hid h
  have H1 := Lib.hid h1
  have h40 := h1.le
  have hU := Lib.hid (show cntE (upto t 0 0) n = 0 by rw [upto_zero]; rfl)
  have hA := Lib.hid (upto_all t n)
  clear h h1
  have T0 := Lib.hid (One.new w (.slice a t.length c) 24)
  have B0 := Lib.hid ((Below.refl w.heap.size w).alloc (Nat.le_refl _) (.cells #[.slice a t.length c] 24))
  go_enter Tryz.func22, Tryz.ntmps22
  go_wp2_with fail
  go_loopg [5, 6, 7] t.length (fun gg s5 s6 _ wr => ∃ i : Nat, i ≤ t.length ∧ t.length - i ≤ gg ∧ s5 = .int .i64 (cntE (upto t i 0) n : Nat) ∧ s6 = .int .i64 i ∧ Aside (Below w.heap.size w wr) ∧ Aside (One wr w.heap.size (.slice a t.length c)))
  case atStart => exact ⟨0, by omega, by omega, by rw [hU.out]; rfl, rfl, B0.out, T0.out⟩
  case round =>
    obtain ⟨i, hi, hg, rfl, rfl, B, T⟩ := hrel
    obtain ⟨w2, rfl⟩ : ∃ w2 : World, w2 = wr := ⟨_, rfl⟩
    clear T0 B0 hU
    have tc := T.out.c0
    have tl := T.out.lt
    by_cases hlt : i < t.length
    · have hltz : (i : Int) < (t.length : Int) := by omega
      have hi0 : (0 : Int) ≤ (i : Int) := Int.natCast_nonneg _
      have hm9 : t.length - (i + 1) < t.length - i := Nat.sub_lt_sub_left hlt (Nat.lt_succ_self i)
      obtain ⟨b, o, ve, vd, va, vx, rfl, hb, hc, hs⟩ := (H.out.below B.out).one hlt
      obtain ⟨ea, ec, rfl, hec, hel, hef, hex⟩ := hs.es
      have h2 := hc.c2
      change (kids t i).length ≤ ec at hec
      change (kids t i).length ≤ 35184372088832 at hel
      change w2.cell? ⟨b, o + i * 8 + 2, none⟩ = some (.slice ea (kids t i).length ec) at h2
      have HEX := Lib.hid (show 0 < (kids t i).length → ∃ b o, ea = some ⟨b, o, none⟩ ∧ b < w.heap.size ∧ ∀ j, j < (kids t i).length →
        w2.cell? ⟨b, o + j * 2, none⟩ = some (.string ((kids t i).getD j D0).n) ∧ w2.cell? ⟨b, o + j * 2 + 1, none⟩ = some (.int .i64 ((kids t i).getD j D0).i) from hex)
      have HCL := Lib.hid (fun k => cnt_le H1.out i k n hi)
      have HUN := Lib.hid (upto_next hlt)
      have HST := Lib.hid (fun (k q : Nat) (x : ByteArray) (ei : Int) => cnt_step (t := t) (i := i) (k := k) (n := n) (q := q) (x := x) (ei := ei))
      clear hc hs hef hex
      generalize hm : (kids t i).length = m at *
      go_wp2_with fail
      go_loopg [5, 7] m (fun gg s5 s7 wq => ∃ k : Nat, k ≤ m ∧ m - k ≤ gg ∧ s5 = .int .i64 (cntE (upto t i k) n : Nat) ∧ s7 = .int .i64 k ∧ Aside (w2 = wq))
      case atStart => exact ⟨0, by omega, by omega, rfl, rfl, rfl⟩
      case round =>
        obtain ⟨k, hk, hg2, rfl, rfl, hw⟩ := hrel
        have hw2 := hw.out
        subst hw2
        clear hw
        by_cases hlk : k < m
        · have hlkz : (k : Int) < (m : Int) := by omega
          have hk0 : (0 : Int) ≤ (k : Int) := Int.natCast_nonneg _
          obtain ⟨be, oe, rfl, hbe, hje⟩ := HEX.out (by omega)
          have g1 := (hje k hlk).2
          have hcb := HCL.out k
          clear hje
          generalize hy : (kids t i).getD k D0 = e at *
          obtain ⟨x, ei⟩ := e
          simp only at g1
          generalize hq : cntE (upto t i k) n = q at *
          have HS := Lib.hid (HST.out k q x ei hlk hy hq)
          clear hy hq
          by_cases he : ei = (n : Int)
          · subst he
            rw [if_pos rfl] at HS
            go_wp2
            go_roundg (m - (k + 1))
            case measure => omega
            case rel => exact ⟨k + 1, by omega, by omega, by rw [HS.out]; go_num, by go_num, rfl⟩
          · have heb : (ei == (n : Int)) = false := by simpa using he
            rw [if_neg he] at HS
            clear he
            go_wp2
            go_roundg (m - (k + 1))
            case measure => omega
            case rel => exact ⟨k + 1, by omega, by omega, by rw [HS.out]; rfl, by go_num, rfl⟩
        · obtain rfl : k = m := by omega
          go_wp2
          go_roundg (t.length - (i + 1))
          case measure => exact Nat.lt_of_lt_of_le hm9 hg
          case rel => exact ⟨i + 1, by omega, by omega, by rw [← HUN.out], by go_num, B.out, T.out⟩
    · obtain rfl : i = t.length := by omega
      go_wp2
      go_ret
      exact ⟨ret_int (by rw [hA.out]), B.out⟩

end Go.Proofs.YtoeiaffkedkepaaGreatDoor

/- The reference's ValidateTree at every tree: the same fault as fstree.Validate. Conditions: the tree's cells lie in memory as they read. -/
namespace Go.Proofs.YtoeiaffkedkepaaGreatDoor
open Go.RowKit

/-- What holds all through: the tree's box, and the box of the result. -/
structure TInv (w wr : World) (a : Option Addr) (n c : Nat) : Prop where
  b : Below w.heap.size w wr
  tb : One wr w.heap.size (.slice a n c)
  fb : FBox wr (w.heap.size + 1) 0 0
theorem TInv.step {w wr z : World} {a : Option Addr} {n c : Nat} (h : TInv w wr a n c) (hb : Below wr.heap.size wr z) : TInv w z a n c :=
  ⟨h.b.trans (hb.mono h.b.size), h.tb.below hb h.tb.lt, h.fb.below hb h.fb.lt⟩
theorem codeK0 (t : Tr) (n : Nat) : codeN t (nod t n) = codeK t 0 n := rfl
theorem codeLk_start {t : Tr} (h : (nod t 0).k = 1) : codeK t 1 0 = 0 := by
  change codeLk t 0 = 0
  unfold codeLk
  rw [if_neg (by rw [h]; simp)]
theorem bP_len (xs : List ByteArray) : (bP xs).size = (pstr xs).length := by unfold bP; simp [ByteArray.size]
theorem tooFar_bP {xs : List ByteArray} (hv : ∀ x ∈ xs, vname x = true) : tooFar xs = (decide (8 < xs.length) || decide (100 < (bP xs).size)) := by rw [tooFar_iff hv, bP_len]

set_option maxRecDepth 100000 in
set_option maxHeartbeats 8000000 in
theorem vtree_head (a : Option Addr) (c : Nat) (t : Tr) (w : World) (hd : Head t) (h : Nods w w.heap.size a c t) :
    Calls Tryz.prog 6 #[.agg #[.slice a t.length c]] w fun e w' => e = .returned (faultV (valT t).1 (valT t).2) ∧ Below w.heap.size w w' := by
  have H := Lib.hid h
  have HD := Lib.hid hd
  have h0 := hd.ne
  have h40 := hd.le
  obtain ⟨b, o, ve, vd, va, vx, rfl, hb, hc, hs⟩ := h.one h0
  have g0 := hc.c0
  rw [hd.root] at g0
  have g0 : w.cell? ⟨b, o, none⟩ = some (.int .i64 1) := by simpa using g0
  have hlz : ((t.length : Int) == 0) = false := by rw [beq_eq_false_iff_ne]; omega
  have hgz : decide ((40 : Int) < (t.length : Int)) = false := by rw [decide_eq_false_iff_not]; omega
  have h0z : (0 : Int) < (t.length : Int) := by omega
  have I0 := Lib.hid (show TInv w ((w.alloc (.cells #[.slice (some ⟨b, o, none⟩) t.length c] 24)).alloc (.cells #[.int .i64 0, .int .i64 0] 28)) (some ⟨b, o, none⟩) t.length c from
    ⟨((Below.refl _ _).alloc (Nat.le_refl _) _).alloc (by first | omega | (simp; done) | (simp; omega)) _, (One.new w _ _).alloc _, (FBox.new (w.alloc _) 0 0 _).at_ (by simp)⟩)
  have HB := Lib.hid hb
  clear hc hs h hd
  go_enter Tryz.func6, Tryz.ntmps6
  go_wp2_with fail
  clear g0
  go_loopg [3, 4] t.length (fun gg s3 _ wr => ∃ n : Nat, n ≤ t.length ∧ t.length - n ≤ gg ∧ s3 = .int .i64 n ∧ Aside (TInv w wr (some ⟨b, o, none⟩) t.length c) ∧ Aside (∀ j, j < n → codeK t 0 j = 0))
  case atStart => exact ⟨0, by omega, by omega, rfl, I0.out, fun j hj => absurd hj (Nat.not_lt_zero _)⟩
  case round =>
    obtain ⟨n, hn, hg, rfl, I, A⟩ := hrel
    clear I0
    obtain ⟨w2, rfl⟩ : ∃ w2 : World, w2 = wr := ⟨_, rfl⟩
    have tc := I.out.tb.c0
    have tl := I.out.tb.lt
    have hbs := I.out.b.size
    have hb := Nat.lt_of_lt_of_le HB.out hbs
    by_cases hln : n < t.length
    · have hlnz : (n : Int) < (t.length : Int) := by omega
      have hn0 : (0 : Int) ≤ (n : Int) := Int.natCast_nonneg _
      have hm8 : t.length - (n + 1) < t.length - n := Nat.sub_lt_sub_left hln (Nat.lt_succ_self n)
      obtain ⟨b', o', ve, vd, va, vx, hae, _, hc, hs⟩ := (H.out.up I.out.b).one hln
      injection hae with hae
      injection hae with e1 e2 _
      subst e1 e2
      obtain ⟨ea, ec, rfl⟩ : ∃ ea ec, ve = .slice ea (nod t n).es.length ec := by obtain ⟨ea, ec, e, _⟩ := hs.es; exact ⟨ea, ec, e⟩
      obtain ⟨da, dc, rfl⟩ : ∃ da dc, vd = .slice da (nod t n).dl dc := by obtain ⟨da, dc, e, _⟩ := hs.dl; exact ⟨da, dc, e⟩
      obtain ⟨aa, acp, rfl⟩ : ∃ aa ac, va = .slice aa (nod t n).ac.length ac := by obtain ⟨da, dc, e, _⟩ := hs.ac; exact ⟨da, dc, e⟩
      obtain ⟨xa, xc, rfl⟩ : ∃ xa xc, vx = .slice xa (nod t n).xs.length xc := by obtain ⟨da, dc, e, _⟩ := hs.xs; exact ⟨da, dc, e⟩
      have D := Lib.hid (fun W (hW : Below w2.heap.size w2 W) => inodeCode_any (some ⟨b, o, none⟩) c t (nod t n) _ _ _ _ W ((H.out.up I.out.b).up hW) (hs.up hW))
      have K := Lib.hid (fun y (hy : Below w2.heap.size w2 y) => (show Below w2.heap.size w2 y ∧ y.cell? ⟨w.heap.size, 0, none⟩ = some (.slice (some ⟨b, o, none⟩) t.length c) ∧ y.cell? ⟨b, o + n * 8, none⟩ = some (.int .i64 (nod t n).k) ∧ y.cell? ⟨b, o + n * 8 + 1, none⟩ = some (.int .i64 (nod t n).o) ∧ y.cell? ⟨b, o + n * 8 + 2, none⟩ = some (.slice ea (nod t n).es.length ec) ∧ y.cell? ⟨b, o + n * 8 + 3, none⟩ = some (.slice da (nod t n).dl dc) ∧ y.cell? ⟨b, o + n * 8 + 4, none⟩ = some (.slice aa (nod t n).ac.length acp) ∧ y.cell? ⟨b, o + n * 8 + 5, none⟩ = some (.slice xa (nod t n).xs.length xc) ∧ y.cell? ⟨b, o + n * 8 + 6, none⟩ = some (.int .i64 (nod t n).q) ∧ y.cell? ⟨b, o + n * 8 + 7, none⟩ = some (.int .i64 (nod t n).v) from
        ⟨hy, (hy.cell (p := ⟨w.heap.size, 0, none⟩) tl).trans tc, (hy.cell (p := ⟨b, _, none⟩) hb).trans hc.c0, (hy.cell (p := ⟨b, _, none⟩) hb).trans hc.c1, (hy.cell (p := ⟨b, _, none⟩) hb).trans hc.c2, (hy.cell (p := ⟨b, _, none⟩) hb).trans hc.c3, (hy.cell (p := ⟨b, _, none⟩) hb).trans hc.c4, (hy.cell (p := ⟨b, _, none⟩) hb).trans hc.c5, (hy.cell (p := ⟨b, _, none⟩) hb).trans hc.c6, (hy.cell (p := ⟨b, _, none⟩) hb).trans hc.c7⟩))
      have h7 := hc.c7
      clear hc hs
      have hq : codeN t (nod t n) = codeK t 0 n := rfl
      generalize codeN t (nod t n) = q at *
      have HQ := Lib.hid hq.symm
      clear hq
      generalize (nod t n).k = gk at *
      generalize (nod t n).o = go at *
      generalize (nod t n).es.length = ge at *
      generalize (nod t n).dl = gd at *
      generalize (nod t n).ac.length = ga at *
      generalize (nod t n).xs.length = gx at *
      generalize (nod t n).q = gq at *
      generalize (nod t n).v = gv at *
      by_cases hq0 : q = 0
      · subst hq0
        go_wp2_with fail
        go_region_held3 (fun y => Below w2.heap.size w2 y ∧ y.cell? ⟨w.heap.size, 0, none⟩ = some (.slice (some ⟨b, o, none⟩) t.length c) ∧ y.cell? ⟨b, o + n * 8, none⟩ = some (.int .i64 gk) ∧ y.cell? ⟨b, o + n * 8 + 1, none⟩ = some (.int .i64 go) ∧ y.cell? ⟨b, o + n * 8 + 2, none⟩ = some (.slice ea ge ec) ∧ y.cell? ⟨b, o + n * 8 + 3, none⟩ = some (.slice da gd dc) ∧ y.cell? ⟨b, o + n * 8 + 4, none⟩ = some (.slice aa ga acp) ∧ y.cell? ⟨b, o + n * 8 + 5, none⟩ = some (.slice xa gx xc) ∧ y.cell? ⟨b, o + n * 8 + 6, none⟩ = some (.int .i64 gq) ∧ y.cell? ⟨b, o + n * 8 + 7, none⟩ = some (.int .i64 gv))
          (first | exact K.out _ hR | exact K.out _ (Below.refl _ _).drew)
          ((go_at_call 21; have hs0 := And.left ‹Below w2.heap.size w2 _ ∧ _›; refine (D.out _ hs0).mono ?_; rintro e y ⟨rfl, hb9⟩; have hR := hs0.trans (hb9.mono hs0.size)))
        all_goals
          have hz := And.left ‹Below w2.heap.size w2 _ ∧ _›
          have I8 := Lib.hid (I.out.step hz)
          go_wp2_with fail
          go_roundg (t.length - (n + 1))
          case measure => exact Nat.lt_of_lt_of_le hm8 hg
          case rel =>
            refine ⟨n + 1, by omega, by omega, by go_num, I8.out, (show Aside _ from fun j hj => ?_)⟩
            by_cases e : j = n
            · subst e; exact HQ.out
            · exact A.out j (by omega)
      · have hq1 : (q != 0) = true := by simpa using hq0
        have hq2 : (q == 0) = false := by simpa using hq0
        have HV := Lib.hid (valT_hit HD.out (k := 0) (by omega) (fun j hj => absurd hj (Nat.not_lt_zero _)) hln HQ.out hq0 A.out)
        clear hq0
        go_wp2_with fail
        go_region_held3 (fun y => Below w2.heap.size w2 y ∧ y.cell? ⟨w.heap.size, 0, none⟩ = some (.slice (some ⟨b, o, none⟩) t.length c) ∧ y.cell? ⟨b, o + n * 8, none⟩ = some (.int .i64 gk) ∧ y.cell? ⟨b, o + n * 8 + 1, none⟩ = some (.int .i64 go) ∧ y.cell? ⟨b, o + n * 8 + 2, none⟩ = some (.slice ea ge ec) ∧ y.cell? ⟨b, o + n * 8 + 3, none⟩ = some (.slice da gd dc) ∧ y.cell? ⟨b, o + n * 8 + 4, none⟩ = some (.slice aa ga acp) ∧ y.cell? ⟨b, o + n * 8 + 5, none⟩ = some (.slice xa gx xc) ∧ y.cell? ⟨b, o + n * 8 + 6, none⟩ = some (.int .i64 gq) ∧ y.cell? ⟨b, o + n * 8 + 7, none⟩ = some (.int .i64 gv))
          (first | exact K.out _ hR | exact K.out _ (Below.refl _ _).drew)
          ((go_at_call 21; have hs0 := And.left ‹Below w2.heap.size w2 _ ∧ _›; refine (D.out _ hs0).mono ?_; rintro e y ⟨rfl, hb9⟩; have hR := hs0.trans (hb9.mono hs0.size)))
        all_goals
          have hz := And.left ‹Below w2.heap.size w2 _ ∧ _›
          have I8 := Lib.hid (I.out.step hz)
          go_wp2_with fail
          refine (newFault_any _ _ _).mono ?_
          rintro e w9 ⟨rfl, b9⟩
          have I9 := Lib.hid (I8.out.step b9)
          obtain ⟨l9, a0, a1, f0, f1⟩ := I9.out.fb
          clear b9
          go_wp2
          exact bodyPost_ret (v := faultV q n) (by simp [results, Tryz.results6, faultV, go_sem, a0, a1]) rfl ⟨by rw [HV.out], (I9.out.b.setCell (by first | omega | (simp; done) | (simp; omega)) _).setCell (by first | omega | (simp; done) | (simp; omega)) _⟩
    · obtain rfl : n = t.length := by omega
      have P1 := Lib.hid (Pass.succ (k := 0) (fun j hj => absurd hj (Nat.not_lt_zero _)) A.out)
      have O1 := Lib.hid (Pass.ok1 HD.out P1.out)
      clear A
      go_wp2_with fail
      clear tc tl hbs hb hln hg hn
      go_loopg [5, 6] t.length (fun gg s5 _ wr => ∃ n : Nat, 1 ≤ n ∧ n ≤ t.length ∧ t.length - n ≤ gg ∧ s5 = .int .i64 n ∧ Aside (TInv w wr (some ⟨b, o, none⟩) t.length c) ∧ Aside (∀ j, j < n → codeK t 1 j = 0))
      case atStart => exact ⟨1, by omega, by omega, by omega, rfl, I.out, fun j hj => by (obtain rfl : j = 0 := by omega); exact codeLk_start HD.out.root⟩
      case round =>
        clear I
        obtain ⟨n, h1n, hn, hg, rfl, I, A⟩ := hrel
        obtain ⟨w2, rfl⟩ : ∃ w2 : World, w2 = wr := ⟨_, rfl⟩
        have tc := I.out.tb.c0
        have tl := I.out.tb.lt
        have hbs := I.out.b.size
        have hb := Nat.lt_of_lt_of_le HB.out hbs
        by_cases hln : n < t.length
        · have hlnz : (n : Int) < (t.length : Int) := by omega
          have hn0 : (0 : Int) ≤ (n : Int) := Int.natCast_nonneg _
          have hm8 : t.length - (n + 1) < t.length - n := Nat.sub_lt_sub_left hln (Nat.lt_succ_self n)
          obtain ⟨b', o', ve, vd, va, vx, hae, _, hc, hs⟩ := (H.out.up I.out.b).one hln
          injection hae with hae
          injection hae with e1 e2 _
          subst e1 e2
          have g0 := hc.c0
          have D := Lib.hid (linkCount_any (some ⟨b, o, none⟩) c t n w2 O1.out (H.out.up I.out.b))
          have HF := Lib.hid (show codeK t 1 n = if ((nod t n).k = 1 ∧ n ≠ 0 ∧ refs t n ≠ 1) ∨ ((nod t n).k = 2 ∧ refs t n = 0) then 11 else 0 from rfl)
          have hk := (O1.out.fine n).kind
          clear hc hs
          generalize refs t n = q at *
          generalize (nod t n).k = gk at *
          rcases hk with rfl | rfl | rfl
          · have HQ := Lib.hid (HF.out.trans (if_neg (by omega)))
            clear HF
            go_wp2_with fail
            refine D.out.mono ?_
            rintro e w3 ⟨rfl, b3⟩
            have I3 := Lib.hid (I.out.step b3)
            have tc3 := I3.out.tb.c0
            have tl3 := I3.out.tb.lt
            have g3 := (b3.cell (p := ⟨b, o + n * 8, none⟩) hb).trans g0
            clear b3
            go_wp2_with fail
            go_roundg (t.length - (n + 1))
            case measure => exact Nat.lt_of_lt_of_le hm8 hg
            case rel =>
              refine ⟨n + 1, by omega, by omega, by omega, by go_num, I3.out, (show Aside _ from fun j hj => ?_)⟩
              by_cases e : j = n
              · subst e; exact HQ.out
              · exact A.out j (by omega)
          · by_cases hq : q = 1
            · subst hq
              have HQ := Lib.hid (HF.out.trans (if_neg (by omega)))
              clear HF
              go_wp2_with fail
              refine D.out.mono ?_
              rintro e w3 ⟨rfl, b3⟩
              have I3 := Lib.hid (I.out.step b3)
              have tc3 := I3.out.tb.c0
              have tl3 := I3.out.tb.lt
              have g3 := (b3.cell (p := ⟨b, o + n * 8, none⟩) hb).trans g0
              clear b3
              go_wp2_with fail
              go_roundg (t.length - (n + 1))
              case measure => exact Nat.lt_of_lt_of_le hm8 hg
              case rel =>
                refine ⟨n + 1, by omega, by omega, by omega, by go_num, I3.out, (show Aside _ from fun j hj => ?_)⟩
                by_cases e : j = n
                · subst e; exact HQ.out
                · exact A.out j (by omega)
            · have hqb : ((q : Int) != 1) = true := by rw [bne_iff_ne]; omega
              have HQ := Lib.hid (HF.out.trans (if_pos (.inl ⟨rfl, by omega, hq⟩)))
              have HV := Lib.hid (valT_hit HD.out (k := 1) (by omega) P1.out hln HQ.out (by decide) A.out)
              clear HF hq
              go_wp2_with fail
              refine D.out.mono ?_
              rintro e w3 ⟨rfl, b3⟩
              have I3 := Lib.hid (I.out.step b3)
              have tc3 := I3.out.tb.c0
              have tl3 := I3.out.tb.lt
              have g3 := (b3.cell (p := ⟨b, o + n * 8, none⟩) hb).trans g0
              clear b3
              go_wp2_with fail
              refine (newFault_any _ _ _).mono ?_
              rintro e w9 ⟨rfl, b9⟩
              have I9 := Lib.hid (I3.out.step b9)
              obtain ⟨l9, a0, a1, f0, f1⟩ := I9.out.fb
              clear b9
              go_wp2
              exact bodyPost_ret (v := faultV 11 n) (by simp [results, Tryz.results6, faultV, go_sem, a0, a1]) rfl ⟨by rw [HV.out], (I9.out.b.setCell (by first | omega | (simp; done) | (simp; omega)) _).setCell (by first | omega | (simp; done) | (simp; omega)) _⟩
          · by_cases hq : q = 0
            · subst hq
              have HQ := Lib.hid (HF.out.trans (if_pos (.inr ⟨rfl, rfl⟩)))
              have HV := Lib.hid (valT_hit HD.out (k := 1) (by omega) P1.out hln HQ.out (by decide) A.out)
              have hqb : (((0 : Nat) : Int) == 0) = true := by decide
              clear HF
              go_wp2_with fail
              refine D.out.mono ?_
              rintro e w3 ⟨rfl, b3⟩
              have I3 := Lib.hid (I.out.step b3)
              have tc3 := I3.out.tb.c0
              have tl3 := I3.out.tb.lt
              have g3 := (b3.cell (p := ⟨b, o + n * 8, none⟩) hb).trans g0
              clear b3
              go_wp2_with fail
              refine (newFault_any _ _ _).mono ?_
              rintro e w9 ⟨rfl, b9⟩
              have I9 := Lib.hid (I3.out.step b9)
              obtain ⟨l9, a0, a1, f0, f1⟩ := I9.out.fb
              clear b9
              go_wp2
              exact bodyPost_ret (v := faultV 11 n) (by simp [results, Tryz.results6, faultV, go_sem, a0, a1]) rfl ⟨by rw [HV.out], (I9.out.b.setCell (by first | omega | (simp; done) | (simp; omega)) _).setCell (by first | omega | (simp; done) | (simp; omega)) _⟩
            · have hqb : ((q : Int) == 0) = false := by rw [beq_eq_false_iff_ne]; omega
              have HQ := Lib.hid (HF.out.trans (if_neg (by omega)))
              clear HF hq
              go_wp2_with fail
              refine D.out.mono ?_
              rintro e w3 ⟨rfl, b3⟩
              have I3 := Lib.hid (I.out.step b3)
              have tc3 := I3.out.tb.c0
              have tl3 := I3.out.tb.lt
              have g3 := (b3.cell (p := ⟨b, o + n * 8, none⟩) hb).trans g0
              clear b3
              go_wp2_with fail
              go_roundg (t.length - (n + 1))
              case measure => exact Nat.lt_of_lt_of_le hm8 hg
              case rel =>
                refine ⟨n + 1, by omega, by omega, by omega, by go_num, I3.out, (show Aside _ from fun j hj => ?_)⟩
                by_cases e : j = n
                · subst e; exact HQ.out
                · exact A.out j (by omega)
        · obtain rfl : n = t.length := by omega
          have P2 := Lib.hid (P1.out.succ A.out)
          have O2 := Lib.hid (Pass.ok2 HD.out P2.out)
          clear A
          have D := Lib.hid (routes_any (some ⟨b, o, none⟩) c t 0 w2 O1.out O2.out.from0 (H.out.up I.out.b))
          go_wp2_with fail
          refine D.out.mono ?_
          rintro e w5 ⟨v, L, rfl, hvs, hperm, _, b5⟩
          have I5 := Lib.hid (I.out.step b5)
          have hl6 : L.length ≤ 641 := by rw [← hperm.length_eq]; exact len_visits O1.out O2.out.from0
          have HH := Lib.hid (fun n => hasL_perm hperm n)
          have HFL := Lib.hid (fun n => farL_perm hperm n)
          have HNM := Lib.hid (fun p (hp : p ∈ L) => (O1.out.rch ((mem_visits O2.out.fin (ys := p.1) (m := p.2)).1 (hperm.mem_iff.2 hp)) O1.out.ne (by rw [HD.out.root]; decide)).2.2)
          have V5 := Lib.hid hvs
          obtain ⟨rb, rc, rfl, hrc, hL0, hrb, _⟩ := hvs
          clear b5 hperm D tc tl hbs hb hln hg hn
          go_wp2_with fail
          go_loopg [8, 9, 10, 11] t.length (fun gg s8 _ _ _ wr => ∃ n : Nat, n ≤ t.length ∧ t.length - n ≤ gg ∧ s8 = .int .i64 n ∧ Aside (TInv w wr (some ⟨b, o, none⟩) t.length c) ∧ Aside (Vs wr w5.heap.size (.slice (some ⟨rb, 0, none⟩) L.length rc) L) ∧ Aside (∀ j, j < n → codeK t 2 j = 0))
          case atStart => exact ⟨0, by omega, by omega, rfl, I5.out, V5.out, fun j hj => absurd hj (Nat.not_lt_zero _)⟩
          case round =>
            clear I I5 V5
            obtain ⟨n, hn, hg, rfl, I, V, A⟩ := hrel
            obtain ⟨w2, rfl⟩ : ∃ w2 : World, w2 = wr := ⟨_, rfl⟩
            have tc := I.out.tb.c0
            have tl := I.out.tb.lt
            have hbs := I.out.b.size
            have hb := Nat.lt_of_lt_of_le HB.out hbs
            by_cases hln : n < t.length
            · have hlnz : (n : Int) < (t.length : Int) := by omega
              have hn0 : (0 : Int) ≤ (n : Int) := Int.natCast_nonneg _
              have hm8 : t.length - (n + 1) < t.length - n := Nat.sub_lt_sub_left hln (Nat.lt_succ_self n)
              obtain ⟨b', o', ve, vd, va, vx, hae, _, hc, hs⟩ := (H.out.up I.out.b).one hln
              injection hae with hae
              injection hae with e1 e2 _
              subst e1 e2
              have g0 := hc.c0
              have HF := Lib.hid (show codeK t 2 n = if (nod t n).k ≠ 0 ∧ hasL (visits t 0) n = false then 11 else if farL (visits t 0) n = true then 10 else 0 from rfl)
              rw [HH.out n, HFL.out n] at HF
              clear hc hs
              generalize (nod t n).k = kd at *
              go_wp2_with fail
              go_loopg [9, 10, 11] L.length (fun gg s9 s10 s11 wq => ∃ j : Nat, j ≤ L.length ∧ L.length - j ≤ gg ∧ s9 = .bool (kd == 0 || hasL (L.take j) n) ∧ s10 = .bool (farL (L.take j) n) ∧ s11 = .int .i64 j ∧ Aside (w2 = wq))
              case atStart => exact ⟨0, by omega, by omega, by simp [hasL], rfl, rfl, rfl⟩
              case round =>
                obtain ⟨j, hj, hg2, rfl, rfl, rfl, hw⟩ := hrel
                have hw2 := hw.out
                subst hw2
                clear hw
                by_cases hlj : j < L.length
                · have hljz : (j : Int) < (L.length : Int) := by omega
                  have hj0 : (0 : Int) ≤ (j : Int) := Int.natCast_nonneg _
                  have hm7 : L.length - (j + 1) < L.length - j := Nat.sub_lt_sub_left hlj (Nat.lt_succ_self j)
                  obtain ⟨_, r0, r1, r2⟩ := V.out.cell hlj
                  have HT1 := Lib.hid (hasL_take (i := n) hlj)
                  have HT2 := Lib.hid (farL_take (i := n) hlj)
                  have HTF := Lib.hid (tooFar_bP (HNM.out _ (vis_lt hlj)))
                  generalize L.getD j V0 = p at *
                  obtain ⟨xs, m⟩ := p
                  simp only at r0 r1 r2 HT1 HT2 HTF
                  generalize tooFar xs = tf at *
                  generalize hasL (L.take j) n = hs at *
                  generalize hfr : farL (L.take j) n = fr at *
                  by_cases hmn : m = n
                  · subst hmn
                    cases fr with
                    | true =>
                      go_wp2_with fail
                      go_roundg (L.length - (j + 1))
                      case measure => exact Nat.lt_of_lt_of_le hm7 hg2
                      case rel => exact ⟨j + 1, by omega, by omega, by rw [HT1.out]; simp, by rw [HT2.out]; simp, by go_num, rfl⟩
                    | false =>
                      by_cases h8 : 8 < xs.length
                      · have h8z : (8 : Int) < (xs.length : Int) := by omega
                        have htf : tf = true := by rw [HTF.out]; simp [h8]
                        subst htf
                        clear h8 HTF
                        go_wp2_with fail
                        go_roundg (L.length - (j + 1))
                        case measure => exact Nat.lt_of_lt_of_le hm7 hg2
                        case rel => exact ⟨j + 1, by omega, by omega, by rw [HT1.out]; simp, by rw [HT2.out]; simp, by go_num, rfl⟩
                      · have h8z : decide ((8 : Int) < (xs.length : Int)) = false := by rw [decide_eq_false_iff_not]; omega
                        by_cases h1 : 100 < (bP xs).size
                        · have h1z : (100 : Int) < ((bP xs).size : Int) := by omega
                          have htf : tf = true := by rw [HTF.out]; simp [h1]
                          subst htf
                          clear h8 h1 HTF
                          go_wp2_with fail
                          go_roundg (L.length - (j + 1))
                          case measure => exact Nat.lt_of_lt_of_le hm7 hg2
                          case rel => exact ⟨j + 1, by omega, by omega, by rw [HT1.out]; simp, by rw [HT2.out]; simp, by go_num, rfl⟩
                        · have h1z : decide ((100 : Int) < ((bP xs).size : Int)) = false := by rw [decide_eq_false_iff_not]; omega
                          have htf : tf = false := by rw [HTF.out]; simp [h1, h8]
                          subst htf
                          clear h8 h1 HTF
                          go_wp2_with fail
                          go_roundg (L.length - (j + 1))
                          case measure => exact Nat.lt_of_lt_of_le hm7 hg2
                          case rel => exact ⟨j + 1, by omega, by omega, by rw [HT1.out]; simp, by rw [HT2.out]; simp, by go_num, rfl⟩
                  · have hmb : ((m : Int) == (n : Int)) = false := by rw [beq_eq_false_iff_ne]; omega
                    have hmd : decide (m = n) = false := decide_eq_false hmn
                    rw [hmd] at HT1 HT2
                    clear hmn hmd HTF
                    go_wp2_with fail
                    go_roundg (L.length - (j + 1))
                    case measure => exact Nat.lt_of_lt_of_le hm7 hg2
                    case rel => exact ⟨j + 1, by omega, by omega, by rw [HT1.out]; simp, by rw [HT2.out]; simp, by go_num, rfl⟩
                · obtain rfl : j = L.length := by omega
                  rw [List.take_length]
                  generalize hasL L n = hs at *
                  generalize farL L n = fr at *
                  by_cases hgh : (kd == 0 || hs) = true
                  · rw [hgh]
                    have hnot : ¬ (kd ≠ 0 ∧ hs = false) := by
                      rintro ⟨h1, h2⟩
                      rw [h2, Bool.or_false] at hgh
                      exact h1 (by simpa using hgh)
                    rw [if_neg hnot] at HF
                    clear hnot hgh
                    cases fr with
                    | true =>
                      have HQ := Lib.hid (HF.out.trans (if_pos rfl))
                      have HV := Lib.hid (valT_hit HD.out (k := 2) (by omega) P2.out hln HQ.out (by decide) A.out)
                      clear HF
                      go_wp2_with fail
                      refine (newFault_any _ _ _).mono ?_
                      rintro e w9 ⟨rfl, b9⟩
                      have I9 := Lib.hid (I.out.step b9)
                      obtain ⟨l9, a0, a1, f0, f1⟩ := I9.out.fb
                      clear b9
                      go_wp2
                      exact bodyPost_ret (v := faultV 10 n) (by simp [results, Tryz.results6, faultV, go_sem, a0, a1]) rfl ⟨by rw [HV.out], (I9.out.b.setCell (by first | omega | (simp; done) | (simp; omega)) _).setCell (by first | omega | (simp; done) | (simp; omega)) _⟩
                    | false =>
                      have HQ := Lib.hid (HF.out.trans (if_neg (by decide)))
                      clear HF
                      go_wp2_with fail
                      go_roundg (t.length - (n + 1))
                      case measure => exact Nat.lt_of_lt_of_le hm8 hg
                      case rel =>
                        refine ⟨n + 1, by omega, by omega, by go_num, I.out, V.out, (show Aside _ from fun j hj => ?_)⟩
                        by_cases e : j = n
                        · subst e; exact HQ.out
                        · exact A.out j (by omega)
                  · have hgf : (kd == 0 || hs) = false := by simpa using hgh
                    rw [hgf]
                    have hyes : kd ≠ 0 ∧ hs = false := by
                      rw [Bool.or_eq_false_iff] at hgf
                      exact ⟨by simpa using hgf.1, hgf.2⟩
                    have HQ := Lib.hid (HF.out.trans (if_pos hyes))
                    have HV := Lib.hid (valT_hit HD.out (k := 2) (by omega) P2.out hln HQ.out (by decide) A.out)
                    clear HF hgh hgf hyes
                    go_wp2_with fail
                    refine (newFault_any _ _ _).mono ?_
                    rintro e w9 ⟨rfl, b9⟩
                    have I9 := Lib.hid (I.out.step b9)
                    obtain ⟨l9, a0, a1, f0, f1⟩ := I9.out.fb
                    clear b9
                    go_wp2
                    exact bodyPost_ret (v := faultV 11 n) (by simp [results, Tryz.results6, faultV, go_sem, a0, a1]) rfl ⟨by rw [HV.out], (I9.out.b.setCell (by first | omega | (simp; done) | (simp; omega)) _).setCell (by first | omega | (simp; done) | (simp; omega)) _⟩
            · obtain rfl : n = t.length := by omega
              have P3 := Lib.hid (P2.out.succ A.out)
              clear A
              go_wp2_with fail
              clear tc tl hbs hb hln hg hn
              go_loopg [12] t.length (fun gg s12 wr => ∃ n : Nat, n ≤ t.length ∧ t.length - n ≤ gg ∧ s12 = .int .i64 n ∧ Aside (TInv w wr (some ⟨b, o, none⟩) t.length c) ∧ Aside (∀ j, j < n → codeK t 3 j = 0))
              case atStart => exact ⟨0, by omega, by omega, rfl, I.out, fun j hj => absurd hj (Nat.not_lt_zero _)⟩
              case round =>
                clear I V
                obtain ⟨n, hn, hg, rfl, I, A⟩ := hrel
                obtain ⟨w2, rfl⟩ : ∃ w2 : World, w2 = wr := ⟨_, rfl⟩
                have tc := I.out.tb.c0
                have tl := I.out.tb.lt
                have hbs := I.out.b.size
                have hb := Nat.lt_of_lt_of_le HB.out hbs
                by_cases hln : n < t.length
                · have hlnz : (n : Int) < (t.length : Int) := by omega
                  have hn0 : (0 : Int) ≤ (n : Int) := Int.natCast_nonneg _
                  have hm8 : t.length - (n + 1) < t.length - n := Nat.sub_lt_sub_left hln (Nat.lt_succ_self n)
                  obtain ⟨b', o', ve, vd, va, vx, hae, _, hc, hs⟩ := (H.out.up I.out.b).one hln
                  injection hae with hae
                  injection hae with e1 e2 _
                  subst e1 e2
                  have g6 := hc.c6
                  have HF := Lib.hid (show codeK t 3 n = if (nod t n).q ≠ 0 ∧ (nod t n).q < (usg t (visits t n) : Int) then 14 else 0 from rfl)
                  have hq0 := (O1.out.fine n).q0
                  have D := Lib.hid (fun (hq : (nod t n).q ≠ 0) => fun W (hW : Below w2.heap.size w2 W) => refUsage_any (some ⟨b, o, none⟩) c t n W O1.out (Pass.from_ HD.out P3.out hln (fun hk => hq ((O1.out.fine n).dir (by rw [hk]; decide)).2)).1 ((H.out.up I.out.b).up hW))
                  clear hc hs
                  generalize usg t (visits t n) = u at *
                  generalize (nod t n).q = q at *
                  by_cases hq : 0 < q
                  · have D2 := Lib.hid (D.out (by omega))
                    clear D
                    have K := Lib.hid (fun y (hy : Below w2.heap.size w2 y) => (show Below w2.heap.size w2 y ∧ y.cell? ⟨w.heap.size, 0, none⟩ = some (.slice (some ⟨b, o, none⟩) t.length c) ∧ y.cell? ⟨b, o + n * 8 + 6, none⟩ = some (.int .i64 q) from
                      ⟨hy, (hy.cell (p := ⟨w.heap.size, 0, none⟩) tl).trans tc, (hy.cell (p := ⟨b, _, none⟩) hb).trans g6⟩))
                    by_cases hu : q < (u : Int)
                    · have HQ := Lib.hid (HF.out.trans (if_pos ⟨by omega, hu⟩))
                      have HV := Lib.hid (valT_hit HD.out (k := 3) (by omega) P3.out hln HQ.out (by decide) A.out)
                      clear HF
                      go_wp2_with fail
                      go_region_held3 (fun y => Below w2.heap.size w2 y ∧ y.cell? ⟨w.heap.size, 0, none⟩ = some (.slice (some ⟨b, o, none⟩) t.length c) ∧ y.cell? ⟨b, o + n * 8 + 6, none⟩ = some (.int .i64 q))
                        (first | exact K.out _ hR | exact K.out _ (Below.refl _ _).drew)
                        ((go_at_call 24; have hs0 := And.left ‹Below w2.heap.size w2 _ ∧ _›; refine (D2.out _ hs0).mono ?_; rintro e y ⟨rfl, hb9⟩; have hR := hs0.trans (hb9.mono hs0.size)))
                      all_goals
                        have hz := And.left ‹Below w2.heap.size w2 _ ∧ _›
                        have I8 := Lib.hid (I.out.step hz)
                        go_wp2_with fail
                        refine (newFault_any _ _ _).mono ?_
                        rintro e w9 ⟨rfl, b9⟩
                        have I9 := Lib.hid (I8.out.step b9)
                        obtain ⟨l9, a0, a1, f0, f1⟩ := I9.out.fb
                        clear b9
                        go_wp2
                        exact bodyPost_ret (v := faultV 14 n) (by simp [results, Tryz.results6, faultV, go_sem, a0, a1]) rfl ⟨by rw [HV.out], (I9.out.b.setCell (by first | omega | (simp; done) | (simp; omega)) _).setCell (by first | omega | (simp; done) | (simp; omega)) _⟩
                    · have HQ := Lib.hid (HF.out.trans (if_neg (fun h => hu h.2)))
                      have hu2 : decide (q < (u : Int)) = false := by rw [decide_eq_false_iff_not]; exact hu
                      clear HF hu
                      go_wp2_with fail
                      go_region_held3 (fun y => Below w2.heap.size w2 y ∧ y.cell? ⟨w.heap.size, 0, none⟩ = some (.slice (some ⟨b, o, none⟩) t.length c) ∧ y.cell? ⟨b, o + n * 8 + 6, none⟩ = some (.int .i64 q))
                        (first | exact K.out _ hR | exact K.out _ (Below.refl _ _).drew)
                        ((go_at_call 24; have hs0 := And.left ‹Below w2.heap.size w2 _ ∧ _›; refine (D2.out _ hs0).mono ?_; rintro e y ⟨rfl, hb9⟩; have hR := hs0.trans (hb9.mono hs0.size)))
                      all_goals
                        have hz := And.left ‹Below w2.heap.size w2 _ ∧ _›
                        have I8 := Lib.hid (I.out.step hz)
                        go_wp2_with fail
                        go_roundg (t.length - (n + 1))
                        case measure => exact Nat.lt_of_lt_of_le hm8 hg
                        case rel =>
                          refine ⟨n + 1, by omega, by omega, by go_num, I8.out, (show Aside _ from fun j hj => ?_)⟩
                          by_cases e : j = n
                          · subst e; exact HQ.out
                          · exact A.out j (by omega)
                  · obtain rfl : q = 0 := by omega
                    have HQ := Lib.hid (HF.out.trans (if_neg (fun h => h.1 rfl)))
                    have I8 := Lib.hid (I.out.step (Below.refl w2.heap.size w2).drew)
                    clear HF D hq
                    go_wp2_with fail
                    go_region
                    all_goals
                      go_wp2_with fail
                      go_roundg (t.length - (n + 1))
                      case measure => exact Nat.lt_of_lt_of_le hm8 hg
                      case rel =>
                        refine ⟨n + 1, by omega, by omega, by go_num, I8.out, (show Aside _ from fun j hj => ?_)⟩
                        by_cases e : j = n
                        · subst e; exact HQ.out
                        · exact A.out j (by omega)
                · obtain rfl : n = t.length := by omega
                  have HV := Lib.hid (valT_miss HD.out (show Pass t 4 from P3.out.succ A.out))
                  obtain ⟨l9, a0, a1, f0, f1⟩ := I.out.fb
                  go_wp2
                  exact bodyPost_ret (v := faultV 0 0) (by simp [results, Tryz.results6, faultV, go_sem, a0, a1]) rfl ⟨by rw [HV.out], (I.out.b.setCell (by first | omega | (simp; done) | (simp; omega)) _).setCell (by first | omega | (simp; done) | (simp; omega)) _⟩

set_option maxRecDepth 100000 in
set_option maxHeartbeats 1600000 in
theorem vtree_any (a : Option Addr) (c : Nat) (t : Tr) (w : World) (h : Nods w w.heap.size a c t) :
    Calls Tryz.prog 6 #[.agg #[.slice a t.length c]] w fun e w' => e = .returned (faultV (valT t).1 (valT t).2) ∧ Below w.heap.size w w' := by
  have hll := h.len
  by_cases h0 : t.length = 0
  · have HV := Lib.hid (valT_none h0)
    clear h
    generalize t.length = m at *
    subst h0
    have I0 := Lib.hid (show TInv w ((w.alloc (.cells #[.slice a 0 c] 24)).alloc (.cells #[.int .i64 0, .int .i64 0] 28)) a 0 c from
      ⟨((Below.refl _ _).alloc (Nat.le_refl _) _).alloc (by first | omega | (simp; done) | (simp; omega)) _, (One.new w _ _).alloc _, (FBox.new (w.alloc _) 0 0 _).at_ (by simp)⟩)
    go_enter Tryz.func6, Tryz.ntmps6
    go_wp2_with fail
    refine (newFault_any _ _ _).mono ?_
    rintro e w9 ⟨rfl, b9⟩
    have I9 := Lib.hid (I0.out.step b9)
    obtain ⟨l9, a0, a1, f0, f1⟩ := I9.out.fb
    clear b9
    go_wp2
    exact bodyPost_ret (v := faultV 6 0) (by simp [results, Tryz.results6, faultV, go_sem, a0, a1]) rfl ⟨by rw [HV.out], (I9.out.b.setCell (by first | omega | (simp; done) | (simp; omega)) _).setCell (by first | omega | (simp; done) | (simp; omega)) _⟩
  · have hlz : ((t.length : Int) == 0) = false := by rw [beq_eq_false_iff_ne]; omega
    by_cases h40 : 40 < t.length
    · have HV := Lib.hid (valT_many h40)
      have hgz : (40 : Int) < (t.length : Int) := by omega
      clear h h0
      have I0 := Lib.hid (show TInv w ((w.alloc (.cells #[.slice a t.length c] 24)).alloc (.cells #[.int .i64 0, .int .i64 0] 28)) a t.length c from
        ⟨((Below.refl _ _).alloc (Nat.le_refl _) _).alloc (by first | omega | (simp; done) | (simp; omega)) _, (One.new w _ _).alloc _, (FBox.new (w.alloc _) 0 0 _).at_ (by simp)⟩)
      go_enter Tryz.func6, Tryz.ntmps6
      go_wp2_with fail
      refine (newFault_any _ _ _).mono ?_
      rintro e w9 ⟨rfl, b9⟩
      have I9 := Lib.hid (I0.out.step b9)
      obtain ⟨l9, a0, a1, f0, f1⟩ := I9.out.fb
      clear b9
      go_wp2
      exact bodyPost_ret (v := faultV 2 0) (by simp [results, Tryz.results6, faultV, go_sem, a0, a1]) rfl ⟨by rw [HV.out], (I9.out.b.setCell (by first | omega | (simp; done) | (simp; omega)) _).setCell (by first | omega | (simp; done) | (simp; omega)) _⟩
    · by_cases hr : (nod t 0).k = 1
      · exact vtree_head a c t w ⟨by omega, by omega, hr⟩ h
      · have HV := Lib.hid (valT_root h0 h40 hr)
        have hgz : decide ((40 : Int) < (t.length : Int)) = false := by rw [decide_eq_false_iff_not]; omega
        have h0z : (0 : Int) < (t.length : Int) := by omega
        obtain ⟨b, o, ve, vd, va, vx, rfl, hb, hc, hs⟩ := h.one (j := 0) (by omega)
        have g0 := hc.c0
        have g0 : w.cell? ⟨b, o, none⟩ = some (.int .i64 (nod t 0).k) := by simpa using g0
        clear hc hs h h0
        generalize (nod t 0).k = k at *
        have hk1 : (k != 1) = true := by simpa using hr
        clear hr
        have I0 := Lib.hid (show TInv w ((w.alloc (.cells #[.slice (some ⟨b, o, none⟩) t.length c] 24)).alloc (.cells #[.int .i64 0, .int .i64 0] 28)) (some ⟨b, o, none⟩) t.length c from
          ⟨((Below.refl _ _).alloc (Nat.le_refl _) _).alloc (by first | omega | (simp; done) | (simp; omega)) _, (One.new w _ _).alloc _, (FBox.new (w.alloc _) 0 0 _).at_ (by simp)⟩)
        go_enter Tryz.func6, Tryz.ntmps6
        go_wp2_with fail
        refine (newFault_any _ _ _).mono ?_
        rintro e w9 ⟨rfl, b9⟩
        have I9 := Lib.hid (I0.out.step b9)
        obtain ⟨l9, a0, a1, f0, f1⟩ := I9.out.fb
        clear b9
        go_wp2
        exact bodyPost_ret (v := faultV 8 0) (by simp [results, Tryz.results6, faultV, go_sem, a0, a1]) rfl ⟨by rw [HV.out], (I9.out.b.setCell (by first | omega | (simp; done) | (simp; omega)) _).setCell (by first | omega | (simp; done) | (simp; omega)) _⟩

end Go.Proofs.YtoeiaffkedkepaaGreatDoor
