/- The law FstreePathsOfMatchesSpec returns true at every tree and number. Conditions: the tree's cells lie in memory as they read. -/
import Derived.Test.YtglaohaeaofnhaaFsLawAll
namespace Go.Proofs.Ytglaohaeaofnhaa
open Go.RowKit

/-- The tree of one empty directory. -/
def emptyT : Tr := [⟨1, 0, [], 0, [], [], 0, 0⟩]
theorem valT_emptyT : (valT emptyT).1 = 0 := by decide +kernel
theorem visits_emptyT : visits emptyT 0 = [([], 0)] := rfl
set_option maxRecDepth 100000 in
set_option maxHeartbeats 800000 in
theorem empty_any (w : World) :
    Calls Try.prog 11 #[] w fun e w' => ∃ b, e = .returned (.agg #[.slice (some ⟨b, 0, none⟩) emptyT.length 1]) ∧ Nods w' w'.heap.size (some ⟨b, 0, none⟩) 1 emptyT ∧ Below w.heap.size w w' := by
  go_enter Try.func11, Try.ntmps11
  go_wp2
  refine bodyPost_ret (v := .agg #[.slice (some ⟨w.heap.size + 1, 0, none⟩) 1 1]) (by simp [results, Try.results11, go_sem]) rfl ⟨_, rfl, ⟨by decide, by decide, fun _ => ⟨_, 0, rfl, by simp, fun j hj => ?_⟩⟩, by repeat (first | exact Below.refl _ _ | refine Below.setCell ?_ (by first | omega | (simp; done) | (simp; omega)) _ | refine Below.alloc ?_ (by first | omega | (simp; done) | (simp; omega)) _)⟩
  obtain rfl : j = 0 := by simp [emptyT] at hj; omega
  refine ⟨.slice none 0 0, .slice none 0 0, .slice none 0 0, .slice none 0 0, ⟨by simp [nod, emptyT], by simp [nod, emptyT], by simp, by simp, by simp, by simp, by simp [nod, emptyT], by simp [nod, emptyT]⟩, ⟨DEs.none_ _ _, ⟨none, 0, rfl, by simp [nod, emptyT]⟩, by simp [nod, emptyT], Acls.none_ _ _, Ats.none_ _ _, by unfold i64; decide, by unfold i64; decide, by unfold i64; decide, by unfold i64; decide⟩⟩
theorem one_empty {w : World} {B : Nat} {v : Value} {P : List ByteArray} (ha : AscOf P (pathsW (fun _ => true) (visits emptyT 0))) (hs : Strs w B v P) : ∃ a c, v = .slice a 1 c := by
  have h1 : AscOf [bP []] (pathsW (fun _ => true) (visits emptyT 0)) := ⟨List.pairwise_singleton _ _, fun x => Iff.rfl⟩
  obtain rfl : P = [bP []] := ha.same h1
  obtain ⟨a, c, rfl, _⟩ := hs
  exact ⟨a, c, rfl⟩

set_option maxRecDepth 100000 in
set_option maxHeartbeats 3200000 in
theorem lawPaths_any (a : Option Addr) (c : Nat) (t : Tr) (n : Int) (w : World) (h : Nods w w.heap.size a c t) :
    Calls Try.prog 4 #[.agg #[.slice a t.length c], .int .i64 n] w fun e w' => e = .returned (.bool true) ∧ Below w.heap.size w w' := by
  have C2 := Lib.hid (fun W (hb : Below w.heap.size w W) => vtree_any a c t W (h.up hb))
  have T0 := Lib.hid (One.new w (.slice a t.length c) 24)
  have B0 := Lib.hid ((Below.refl w.heap.size w).alloc (Nat.le_refl _) (.cells #[.slice a t.length c] 24))
  have hll := h.len
  unfold faultV at C2
  by_cases hq : (valT t).1 = 0
  · have hz := valT_zero hq
    obtain ⟨hd, p4⟩ := valT_ok hq
    have hpf : pofF t n = if used t n = true then (0, 0) else (3, -1) := by unfold pofF; rw [if_neg (by simpa using hq)]
    rw [hz] at C2
    cases hu : used t n with
    | true =>
      rw [hu, if_pos rfl] at hpf
      have o2 := Pass.ok2 hd (p4.mono (by omega))
      have C1 := Lib.hid (fun W (hb : Below w.heap.size w W) => (pathsOf_any a c t n W (h.up hb)).mono fun e w' hp => hp.good (by rw [hpf]))
      have C3 := Lib.hid (fun W (hb : Below w.heap.size w W) => refPathsOf_any a c t n W o2.toOk1 o2.from0 (h.up hb))
      have hun : 0 ≤ n ∧ n < t.length ∧ (nod t n.toNat).k ≠ 0 := by unfold used at hu; simpa using hu
      obtain ⟨n, rfl⟩ := Int.eq_ofNat_of_zero_le hun.1
      simp only [Int.toNat_natCast] at hun
      have hwt : (fun m : Nat => (m : Int) == (n : Int) || decide ((n : Int) < 0)) = fun m : Nat => (m : Int) == (n : Int) := by funext m; rw [decide_eq_false (by omega), Bool.or_false]
      rw [hwt] at C3
      unfold SortPost at C3
      obtain ⟨b, o, ve, vd, va, vx, rfl, hb, hc, hs⟩ := h.one (j := n) (by omega)
      have KC := Lib.hid (fun W (hW : Below w.heap.size w W) => (hW.cell (p := ⟨b, o + n * 8, none⟩) hb).trans hc.c0)
      have KB := Lib.hid (fun W (hW : Below w.heap.size w W) => Nat.lt_of_lt_of_le hb hW.size)
      have hkb : ((nod t n).k == 0) = false := by simpa using hun.2.2
      have nlz : (n : Int) < (t.length : Int) := hun.2.1
      have nlz2 : decide ((t.length : Int) ≤ (n : Int)) = false := by rw [decide_eq_false_iff_not]; omega
      have nz : (0 : Int) ≤ (n : Int) := Int.natCast_nonneg _
      have nz2 : decide ((n : Int) < 0) = false := by rw [decide_eq_false_iff_not]; omega
      clear hc hs hd p4 o2 hwt hz hq h hpf hu hun
      generalize pathsW (fun m : Nat => (m : Int) == (n : Int)) (visits t 0) = X at *
      generalize (nod t n).k = kd at *
      go_enter Try.func4, Try.ntmps4
      go_wp2_with fail
      refine (C1.out _ B0.out).mono ?_
      rintro e W1 ⟨v, P, rfl, ha, hs, b1⟩
      have T1 := Lib.hid ((T0.out.below b1 T0.out.lt).alloc (.cells #[.int .i64 0, .int .i64 0] 26))
      have B1 := Lib.hid ((B0.out.trans (b1.mono B0.out.size)).alloc (Nat.le_trans B0.out.size b1.size) (.cells #[.int .i64 0, .int .i64 0] 26))
      have F1 := Lib.hid (FBox.new W1 (0) (0) 26)
      have tc := (T0.out.below b1 T0.out.lt).c0
      have tl := (T0.out.below b1 T0.out.lt).lt
      have S1 := Lib.hid (show Strs (W1.alloc (.cells #[.int .i64 0, .int .i64 0] 26)) W1.heap.size v P from hs.below ((Below.refl _ _).alloc (Nat.le_refl _) _))
      have HA := Lib.hid ha
      clear ha hs
      clear b1
      go_wp2_with fail
      refine (C2.out _ B1.out).mono ?_
      rintro e W2 ⟨rfl, b2⟩
      have B2 := Lib.hid ((B1.out.trans (b2.mono B1.out.size)).alloc (Nat.le_trans B1.out.size b2.size) (.cells #[.int .i64 0, .int .i64 0] 26))
      have F2 := Lib.hid ((F1.out.below b2 F1.out.lt).alloc (.cells #[.int .i64 0, .int .i64 0] 26))
      have X2 := Lib.hid (FBox.new W2 (0) (0) 26)
      have T2 := Lib.hid ((T1.out.below b2 T1.out.lt).alloc (.cells #[.int .i64 0, .int .i64 0] 26))
      have tc2 := (T1.out.below b2 T1.out.lt).c0
      have tl2 := (T1.out.below b2 T1.out.lt).lt
      have hW12 : W1.heap.size < W2.heap.size := by have := b2.size; simp at this; omega
      have S2 := Lib.hid (show Strs (W2.alloc (.cells #[.int .i64 0, .int .i64 0] 26)) W1.heap.size v P from (S1.out.below (b2.mono (by simp))).below ((Below.refl _ _).alloc (by omega) _))
      clear b2 tc tl
      have k0 := KC.out _ B2.out
      have k1 := KB.out _ B2.out
      go_wp2_with fail
      clear k0 k1 tc2 tl2
      refine (empty_any _).mono ?_
      rintro e Y1 ⟨eb, rfl, hn1, y1⟩
      have BY1 := Lib.hid (B2.out.trans (y1.mono B2.out.size))
      have FY1 := Lib.hid (F2.out.below y1 F2.out.lt)
      have XY1 := Lib.hid (X2.out.below y1 X2.out.lt)
      have TY1 := Lib.hid (T2.out.below y1 T2.out.lt)
      have SY1 := Lib.hid (S2.out.below (y1.mono (by have := F2.out.lt; omega)))
      have HE := Lib.hid ((allPaths_any _ _ _ Y1 hn1).mono fun e w' hp => hp.good valT_emptyT)
      clear y1 hn1
      go_wp2_with fail
      refine HE.out.mono ?_
      rintro e Y2 ⟨ve, Pe, rfl, hae, hse, y2⟩
      obtain ⟨ea, ec, rfl⟩ := one_empty hae hse
      have BY2 := Lib.hid ((BY1.out.trans (y2.mono BY1.out.size)).alloc (Nat.le_trans BY1.out.size y2.size) (.cells #[.int .i64 0, .int .i64 0] 26))
      have FY2 := Lib.hid (FY1.out.below y2 FY1.out.lt)
      have XY2 := Lib.hid (XY1.out.below y2 XY1.out.lt)
      have TY2 := Lib.hid (TY1.out.below y2 TY1.out.lt)
      have SY2 := Lib.hid (show Strs (Y2.alloc (.cells #[.int .i64 0, .int .i64 0] 26)) W1.heap.size v P from (SY1.out.below (y2.mono (by have := FY1.out.lt; omega))).below ((Below.refl _ _).alloc (by have := FY2.out.lt; omega) _))
      obtain ⟨l8, a0, a1, _, _⟩ := FY2.out
      obtain ⟨l9, c0, c1, _, _⟩ := XY2.out
      have tc9 := TY2.out.c0
      have tl9 := TY2.out.lt
      clear hae hse y2 HE
      go_wp2_with fail
      refine (C3.out _ BY2.out).mono ?_
      rintro e W3 ⟨v3, P3, rfl, ha3, hs3, _, b3⟩
      obtain rfl : P = P3 := HA.out.same ha3
      have B3 := Lib.hid (BY2.out.trans (b3.mono BY2.out.size))
      have S3 := Lib.hid (SY2.out.below (b3.mono (by simp; omega)))
      have S4 := Lib.hid hs3
      clear b3 hs3 ha3 a0 a1 c0 c1 tc9 tl9
      go_wp2_with fail
      refine (strsSame_any v v3 P W3 _ _ S3.out S4.out).mono ?_
      rintro e W4 ⟨rfl, q, rfl⟩
      go_wp2
      go_ret
      exact ⟨rfl, below_drewN B3.out q⟩
    | false =>
      rw [hu, if_neg (by simp)] at hpf
      have C1 := Lib.hid (fun W (hb : Below w.heap.size w W) => (pathsOf_any a c t n W (h.up hb)).mono fun e w' hp => hp.bad (by rw [hpf]; decide))
      rw [hpf] at C1
      have hun : ¬ (0 ≤ n ∧ n < t.length ∧ (nod t n.toNat).k ≠ 0) := by unfold used at hu; simpa using hu
      have HN := Lib.hid h
      clear hd p4 hz hq h hpf hu
      by_cases n0 : n < 0
      · clear hun
        go_enter Try.func4, Try.ntmps4
        go_wp2_with fail
        refine (C1.out _ B0.out).mono ?_
        rintro e W1 ⟨rfl, b1⟩
        have T1 := Lib.hid ((T0.out.below b1 T0.out.lt).alloc (.cells #[.int .i64 3, .int .i64 (-1)] 26))
        have B1 := Lib.hid ((B0.out.trans (b1.mono B0.out.size)).alloc (Nat.le_trans B0.out.size b1.size) (.cells #[.int .i64 3, .int .i64 (-1)] 26))
        have F1 := Lib.hid (FBox.new W1 (3) ((-1)) 26)
        have tc := (T0.out.below b1 T0.out.lt).c0
        have tl := (T0.out.below b1 T0.out.lt).lt
        clear b1
        go_wp2_with fail
        refine (C2.out _ B1.out).mono ?_
        rintro e W2 ⟨rfl, b2⟩
        have B2 := Lib.hid ((B1.out.trans (b2.mono B1.out.size)).alloc (Nat.le_trans B1.out.size b2.size) (.cells #[.int .i64 0, .int .i64 0] 26))
        have F2 := Lib.hid ((F1.out.below b2 F1.out.lt).alloc (.cells #[.int .i64 0, .int .i64 0] 26))
        have X2 := Lib.hid (FBox.new W2 (0) (0) 26)
        have T2 := Lib.hid ((T1.out.below b2 T1.out.lt).alloc (.cells #[.int .i64 0, .int .i64 0] 26))
        have tc2 := (T1.out.below b2 T1.out.lt).c0
        have tl2 := (T1.out.below b2 T1.out.lt).lt
        have hW12 : W1.heap.size < W2.heap.size := by have := b2.size; simp at this; omega
        clear b2 tc tl
        go_wp2_with fail
        refine (newFault_any _ _ _).mono ?_
        rintro e W3 ⟨rfl, b3⟩
        have X3 := X2.out.below b3 X2.out.lt
        have X3' := X3
        obtain ⟨l9, c0, c1, f0, f1⟩ := X3
        have hwW : w.heap.size < W2.heap.size := tl2
        have F4 := Lib.hid (((F2.out.below b3 F2.out.lt).far (p := ⟨W2.heap.size, 0, none⟩) (by simp; omega) (.int .i64 3)).far (p := ⟨W2.heap.size, 1, none⟩) (by simp; omega) (.int .i64 (-1)))
        have X4 := Lib.hid (X3'.put 3 (-1))
        have T4 := Lib.hid (((T2.out.below b3 T2.out.lt).far (p := ⟨W2.heap.size, 0, none⟩) (by have := T1.out.lt; simp; omega) (.int .i64 3)).far (p := ⟨W2.heap.size, 1, none⟩) (by simp; omega) (.int .i64 (-1)))
        have B4 := Lib.hid (((B2.out.trans (b3.mono B2.out.size)).setCell (p := ⟨W2.heap.size, 0, none⟩) (by simp; omega) (.int .i64 3)).setCell (p := ⟨W2.heap.size, 1, none⟩) (by simp; omega) (.int .i64 (-1)))
        clear b3
        go_wp2_with fail
        clear c0 c1 f0 f1 l9 X3' tc2 tl2
        refine (empty_any _).mono ?_
        rintro e Y1 ⟨eb, rfl, hn1, y1⟩
        have BY1 := Lib.hid (B4.out.trans (y1.mono B4.out.size))
        have FY1 := Lib.hid (F4.out.below y1 F4.out.lt)
        have XY1 := Lib.hid (X4.out.below y1 X4.out.lt)
        have TY1 := Lib.hid (T4.out.below y1 T4.out.lt)
        have HE := Lib.hid ((allPaths_any _ _ _ Y1 hn1).mono fun e w' hp => hp.good valT_emptyT)
        clear y1 hn1
        go_wp2_with fail
        refine HE.out.mono ?_
        rintro e Y2 ⟨ve, Pe, rfl, hae, hse, y2⟩
        obtain ⟨ea, ec, rfl⟩ := one_empty hae hse
        have BY2 := Lib.hid ((BY1.out.trans (y2.mono BY1.out.size)).alloc (Nat.le_trans BY1.out.size y2.size) (.cells #[.int .i64 0, .int .i64 0] 26))
        have FY2 := Lib.hid (FY1.out.below y2 FY1.out.lt)
        have XY2 := Lib.hid (XY1.out.below y2 XY1.out.lt)
        have TY2 := Lib.hid (TY1.out.below y2 TY1.out.lt)
        obtain ⟨l8, a0, a1, _, _⟩ := FY2.out
        obtain ⟨l9, c0, c1, _, _⟩ := XY2.out
        have tc9 := TY2.out.c0
        have tl9 := TY2.out.lt
        clear hae hse y2 HE
        go_wp2
        go_ret
        exact ⟨rfl, BY2.out⟩
      · have nz2 : decide (n < 0) = false := by rw [decide_eq_false_iff_not]; exact n0
        obtain ⟨n, rfl⟩ := Int.eq_ofNat_of_zero_le (show 0 ≤ n by omega)
        simp only [Int.toNat_natCast] at hun
        clear n0
        by_cases nl : (t.length : Int) ≤ (n : Int)
        · clear hun
          go_enter Try.func4, Try.ntmps4
          go_wp2_with fail
          refine (C1.out _ B0.out).mono ?_
          rintro e W1 ⟨rfl, b1⟩
          have T1 := Lib.hid ((T0.out.below b1 T0.out.lt).alloc (.cells #[.int .i64 3, .int .i64 (-1)] 26))
          have B1 := Lib.hid ((B0.out.trans (b1.mono B0.out.size)).alloc (Nat.le_trans B0.out.size b1.size) (.cells #[.int .i64 3, .int .i64 (-1)] 26))
          have F1 := Lib.hid (FBox.new W1 (3) ((-1)) 26)
          have tc := (T0.out.below b1 T0.out.lt).c0
          have tl := (T0.out.below b1 T0.out.lt).lt
          clear b1
          go_wp2_with fail
          refine (C2.out _ B1.out).mono ?_
          rintro e W2 ⟨rfl, b2⟩
          have B2 := Lib.hid ((B1.out.trans (b2.mono B1.out.size)).alloc (Nat.le_trans B1.out.size b2.size) (.cells #[.int .i64 0, .int .i64 0] 26))
          have F2 := Lib.hid ((F1.out.below b2 F1.out.lt).alloc (.cells #[.int .i64 0, .int .i64 0] 26))
          have X2 := Lib.hid (FBox.new W2 (0) (0) 26)
          have T2 := Lib.hid ((T1.out.below b2 T1.out.lt).alloc (.cells #[.int .i64 0, .int .i64 0] 26))
          have tc2 := (T1.out.below b2 T1.out.lt).c0
          have tl2 := (T1.out.below b2 T1.out.lt).lt
          have hW12 : W1.heap.size < W2.heap.size := by have := b2.size; simp at this; omega
          clear b2 tc tl
          go_wp2_with fail
          refine (newFault_any _ _ _).mono ?_
          rintro e W3 ⟨rfl, b3⟩
          have X3 := X2.out.below b3 X2.out.lt
          have X3' := X3
          obtain ⟨l9, c0, c1, f0, f1⟩ := X3
          have hwW : w.heap.size < W2.heap.size := tl2
          have F4 := Lib.hid (((F2.out.below b3 F2.out.lt).far (p := ⟨W2.heap.size, 0, none⟩) (by simp; omega) (.int .i64 3)).far (p := ⟨W2.heap.size, 1, none⟩) (by simp; omega) (.int .i64 (-1)))
          have X4 := Lib.hid (X3'.put 3 (-1))
          have T4 := Lib.hid (((T2.out.below b3 T2.out.lt).far (p := ⟨W2.heap.size, 0, none⟩) (by have := T1.out.lt; simp; omega) (.int .i64 3)).far (p := ⟨W2.heap.size, 1, none⟩) (by simp; omega) (.int .i64 (-1)))
          have B4 := Lib.hid (((B2.out.trans (b3.mono B2.out.size)).setCell (p := ⟨W2.heap.size, 0, none⟩) (by simp; omega) (.int .i64 3)).setCell (p := ⟨W2.heap.size, 1, none⟩) (by simp; omega) (.int .i64 (-1)))
          clear b3
          go_wp2_with fail
          clear c0 c1 f0 f1 l9 X3' tc2 tl2
          refine (empty_any _).mono ?_
          rintro e Y1 ⟨eb, rfl, hn1, y1⟩
          have BY1 := Lib.hid (B4.out.trans (y1.mono B4.out.size))
          have FY1 := Lib.hid (F4.out.below y1 F4.out.lt)
          have XY1 := Lib.hid (X4.out.below y1 X4.out.lt)
          have TY1 := Lib.hid (T4.out.below y1 T4.out.lt)
          have HE := Lib.hid ((allPaths_any _ _ _ Y1 hn1).mono fun e w' hp => hp.good valT_emptyT)
          clear y1 hn1
          go_wp2_with fail
          refine HE.out.mono ?_
          rintro e Y2 ⟨ve, Pe, rfl, hae, hse, y2⟩
          obtain ⟨ea, ec, rfl⟩ := one_empty hae hse
          have BY2 := Lib.hid ((BY1.out.trans (y2.mono BY1.out.size)).alloc (Nat.le_trans BY1.out.size y2.size) (.cells #[.int .i64 0, .int .i64 0] 26))
          have FY2 := Lib.hid (FY1.out.below y2 FY1.out.lt)
          have XY2 := Lib.hid (XY1.out.below y2 XY1.out.lt)
          have TY2 := Lib.hid (TY1.out.below y2 TY1.out.lt)
          obtain ⟨l8, a0, a1, _, _⟩ := FY2.out
          obtain ⟨l9, c0, c1, _, _⟩ := XY2.out
          have tc9 := TY2.out.c0
          have tl9 := TY2.out.lt
          clear hae hse y2 HE
          go_wp2
          go_ret
          exact ⟨rfl, BY2.out⟩
        · have nl2 : decide ((t.length : Int) ≤ (n : Int)) = false := by rw [decide_eq_false_iff_not]; exact nl
          have nlz : (n : Int) < (t.length : Int) := by omega
          have nz : (0 : Int) ≤ (n : Int) := Int.natCast_nonneg _
          obtain ⟨b, o, ve, vd, va, vx, rfl, hb, hc, hs⟩ := HN.out.one (j := n) (by omega)
          have hk : (nod t n).k = 0 := by
            rcases Int.decEq (nod t n).k 0 with h9 | h9
            · exact absurd ⟨nz, nlz, h9⟩ hun
            · exact h9
          have KC := Lib.hid (fun W (hW : Below w.heap.size w W) => (hW.cell (p := ⟨b, o + n * 8, none⟩) hb).trans hc.c0)
          have KB := Lib.hid (fun W (hW : Below w.heap.size w W) => Nat.lt_of_lt_of_le hb hW.size)
          rw [hk] at KC
          clear hc hs hk hun nl
          go_enter Try.func4, Try.ntmps4
          go_wp2_with fail
          refine (C1.out _ B0.out).mono ?_
          rintro e W1 ⟨rfl, b1⟩
          have T1 := Lib.hid ((T0.out.below b1 T0.out.lt).alloc (.cells #[.int .i64 3, .int .i64 (-1)] 26))
          have B1 := Lib.hid ((B0.out.trans (b1.mono B0.out.size)).alloc (Nat.le_trans B0.out.size b1.size) (.cells #[.int .i64 3, .int .i64 (-1)] 26))
          have F1 := Lib.hid (FBox.new W1 (3) ((-1)) 26)
          have tc := (T0.out.below b1 T0.out.lt).c0
          have tl := (T0.out.below b1 T0.out.lt).lt
          clear b1
          go_wp2_with fail
          refine (C2.out _ B1.out).mono ?_
          rintro e W2 ⟨rfl, b2⟩
          have B2 := Lib.hid ((B1.out.trans (b2.mono B1.out.size)).alloc (Nat.le_trans B1.out.size b2.size) (.cells #[.int .i64 0, .int .i64 0] 26))
          have F2 := Lib.hid ((F1.out.below b2 F1.out.lt).alloc (.cells #[.int .i64 0, .int .i64 0] 26))
          have X2 := Lib.hid (FBox.new W2 (0) (0) 26)
          have T2 := Lib.hid ((T1.out.below b2 T1.out.lt).alloc (.cells #[.int .i64 0, .int .i64 0] 26))
          have tc2 := (T1.out.below b2 T1.out.lt).c0
          have tl2 := (T1.out.below b2 T1.out.lt).lt
          have hW12 : W1.heap.size < W2.heap.size := by have := b2.size; simp at this; omega
          clear b2 tc tl
          have k0 := KC.out _ B2.out
          have k1 := KB.out _ B2.out
          go_wp2_with fail
          clear k0 k1
          refine (newFault_any _ _ _).mono ?_
          rintro e W3 ⟨rfl, b3⟩
          have X3 := X2.out.below b3 X2.out.lt
          have X3' := X3
          obtain ⟨l9, c0, c1, f0, f1⟩ := X3
          have hwW : w.heap.size < W2.heap.size := tl2
          have F4 := Lib.hid (((F2.out.below b3 F2.out.lt).far (p := ⟨W2.heap.size, 0, none⟩) (by simp; omega) (.int .i64 3)).far (p := ⟨W2.heap.size, 1, none⟩) (by simp; omega) (.int .i64 (-1)))
          have X4 := Lib.hid (X3'.put 3 (-1))
          have T4 := Lib.hid (((T2.out.below b3 T2.out.lt).far (p := ⟨W2.heap.size, 0, none⟩) (by have := T1.out.lt; simp; omega) (.int .i64 3)).far (p := ⟨W2.heap.size, 1, none⟩) (by simp; omega) (.int .i64 (-1)))
          have B4 := Lib.hid (((B2.out.trans (b3.mono B2.out.size)).setCell (p := ⟨W2.heap.size, 0, none⟩) (by simp; omega) (.int .i64 3)).setCell (p := ⟨W2.heap.size, 1, none⟩) (by simp; omega) (.int .i64 (-1)))
          clear b3
          go_wp2_with fail
          clear c0 c1 f0 f1 l9 X3' tc2 tl2
          refine (empty_any _).mono ?_
          rintro e Y1 ⟨eb, rfl, hn1, y1⟩
          have BY1 := Lib.hid (B4.out.trans (y1.mono B4.out.size))
          have FY1 := Lib.hid (F4.out.below y1 F4.out.lt)
          have XY1 := Lib.hid (X4.out.below y1 X4.out.lt)
          have TY1 := Lib.hid (T4.out.below y1 T4.out.lt)
          have HE := Lib.hid ((allPaths_any _ _ _ Y1 hn1).mono fun e w' hp => hp.good valT_emptyT)
          clear y1 hn1
          go_wp2_with fail
          refine HE.out.mono ?_
          rintro e Y2 ⟨ve, Pe, rfl, hae, hse, y2⟩
          obtain ⟨ea, ec, rfl⟩ := one_empty hae hse
          have BY2 := Lib.hid ((BY1.out.trans (y2.mono BY1.out.size)).alloc (Nat.le_trans BY1.out.size y2.size) (.cells #[.int .i64 0, .int .i64 0] 26))
          have FY2 := Lib.hid (FY1.out.below y2 FY1.out.lt)
          have XY2 := Lib.hid (XY1.out.below y2 XY1.out.lt)
          have TY2 := Lib.hid (TY1.out.below y2 TY1.out.lt)
          obtain ⟨l8, a0, a1, _, _⟩ := FY2.out
          obtain ⟨l9, c0, c1, _, _⟩ := XY2.out
          have tc9 := TY2.out.c0
          have tl9 := TY2.out.lt
          clear hae hse y2 HE
          go_wp2
          go_ret
          exact ⟨rfl, BY2.out⟩
  · have hpf : pofF t n = valT t := by unfold pofF; rw [if_pos hq]
    have C1 := Lib.hid (fun W (hb : Below w.heap.size w W) => (pathsOf_any a c t n W (h.up hb)).mono fun e w' hp => hp.bad (by rw [hpf]; exact hq))
    rw [hpf] at C1
    have hq1 : ((valT t).1 != 0) = true := by simpa using hq
    have hq2 : ((valT t).1 == 0) = false := by simpa using hq
    clear hq h hpf
    generalize (valT t).1 = q at *
    generalize (valT t).2 = r at *
    go_enter Try.func4, Try.ntmps4
    go_wp2_with fail
    refine (C1.out _ B0.out).mono ?_
    rintro e W1 ⟨rfl, b1⟩
    have T1 := Lib.hid ((T0.out.below b1 T0.out.lt).alloc (.cells #[.int .i64 q, .int .i64 r] 26))
    have B1 := Lib.hid ((B0.out.trans (b1.mono B0.out.size)).alloc (Nat.le_trans B0.out.size b1.size) (.cells #[.int .i64 q, .int .i64 r] 26))
    have F1 := Lib.hid (FBox.new W1 (q) (r) 26)
    have tc := (T0.out.below b1 T0.out.lt).c0
    have tl := (T0.out.below b1 T0.out.lt).lt
    clear b1
    go_wp2_with fail
    refine (C2.out _ B1.out).mono ?_
    rintro e W2 ⟨rfl, b2⟩
    have B2 := Lib.hid ((B1.out.trans (b2.mono B1.out.size)).alloc (Nat.le_trans B1.out.size b2.size) (.cells #[.int .i64 q, .int .i64 r] 26))
    have F2 := Lib.hid ((F1.out.below b2 F1.out.lt).alloc (.cells #[.int .i64 q, .int .i64 r] 26))
    have X2 := Lib.hid (FBox.new W2 (q) (r) 26)
    have T2 := Lib.hid ((T1.out.below b2 T1.out.lt).alloc (.cells #[.int .i64 q, .int .i64 r] 26))
    have tc2 := (T1.out.below b2 T1.out.lt).c0
    have tl2 := (T1.out.below b2 T1.out.lt).lt
    have hW12 : W1.heap.size < W2.heap.size := by have := b2.size; simp at this; omega
    clear b2 tc tl
    go_wp2_with fail
    clear tc2 tl2
    refine (empty_any _).mono ?_
    rintro e Y1 ⟨eb, rfl, hn1, y1⟩
    have BY1 := Lib.hid (B2.out.trans (y1.mono B2.out.size))
    have FY1 := Lib.hid (F2.out.below y1 F2.out.lt)
    have XY1 := Lib.hid (X2.out.below y1 X2.out.lt)
    have TY1 := Lib.hid (T2.out.below y1 T2.out.lt)
    have HE := Lib.hid ((allPaths_any _ _ _ Y1 hn1).mono fun e w' hp => hp.good valT_emptyT)
    clear y1 hn1
    go_wp2_with fail
    refine HE.out.mono ?_
    rintro e Y2 ⟨ve, Pe, rfl, hae, hse, y2⟩
    obtain ⟨ea, ec, rfl⟩ := one_empty hae hse
    have BY2 := Lib.hid ((BY1.out.trans (y2.mono BY1.out.size)).alloc (Nat.le_trans BY1.out.size y2.size) (.cells #[.int .i64 0, .int .i64 0] 26))
    have FY2 := Lib.hid (FY1.out.below y2 FY1.out.lt)
    have XY2 := Lib.hid (XY1.out.below y2 XY1.out.lt)
    have TY2 := Lib.hid (TY1.out.below y2 TY1.out.lt)
    obtain ⟨l8, a0, a1, _, _⟩ := FY2.out
    obtain ⟨l9, c0, c1, _, _⟩ := XY2.out
    have tc9 := TY2.out.c0
    have tl9 := TY2.out.lt
    clear hae hse y2 HE
    go_wp2
    go_ret
    exact ⟨rfl, BY2.out⟩

end Go.Proofs.Ytglaohaeaofnhaa
