/- The law FstreeAncestorsAreDirectories returns true at every tree and number. Conditions: the library's variable that bounds a search holds an int; the cells lie in memory as they read. -/
import Derived.Test.YtglaohaeaofnhaaDoorFsAnc
import Derived.Test.YtglaohaeaofnhaaDoorFsAllP
import Derived.Test.YtglaohaeaofnhaaDoorFsEmpty
namespace Go.Proofs.YtglaohaeaofnhaaDoor
open Go.RowKit

theorem visits_empty : visits emptyT 0 = [([], 0)] := rfl
theorem one_path {w : World} {B : Nat} {v : Value} {P : List ByteArray} (ha : AscOf P (pathsW (fun _ => true) (visits emptyT 0))) (hs : Strs w B v P) : ∃ a c, v = .slice a 1 c := by
  have h1 : AscOf [bP []] (pathsW (fun _ => true) (visits emptyT 0)) := ⟨List.pairwise_singleton _ _, fun x => Iff.rfl⟩
  obtain rfl : P = [bP []] := ha.same h1
  obtain ⟨a, c, rfl, _⟩ := hs
  exact ⟨a, c, rfl⟩
theorem all_some {t : Tr} (h1 : Ok1 t) (fr : From t 0) {P : List ByteArray} (ha : AscOf P (pathsW (fun _ => true) (visits t 0))) : 0 < P.length ∧ ∀ y ∈ P, ∃ xs m, Rch t 0 xs m ∧ y = bP xs := by
  constructor
  · have hm : bP [] ∈ P := (ha.2 _).2 (by
      unfold pathsW
      exact List.mem_map.2 ⟨([], 0), List.mem_filter.2 ⟨(mem_visits fr.fin).2 .nil, rfl⟩, rfl⟩)
    exact List.length_pos_of_mem hm
  · intro y hy
    have hm := (ha.2 y).1 hy
    unfold pathsW at hm
    obtain ⟨p, hp, rfl⟩ := List.mem_map.1 hm
    exact ⟨p.1, p.2, (mem_visits fr.fin).1 (List.mem_filter.1 hp).1, rfl⟩
/-- What holds along the prefixes. -/
structure AInv (w wr : World) (a : Option Addr) (c : Nat) (t : Tr) (B : Nat) (v : Value) (xs : List ByteArray) : Prop where
  b : Below w.heap.size w wr
  tb : One wr w.heap.size (.slice a t.length c)
  xs : Strs wr B v xs
  hB : B ≤ wr.heap.size
theorem AInv.step {w wr z : World} {a : Option Addr} {c : Nat} {t : Tr} {B : Nat} {v : Value} {xs : List ByteArray} (h : AInv w wr a c t B v xs) (hb : Below wr.heap.size wr z) : AInv w z a c t B v xs :=
  ⟨h.b.trans (hb.mono h.b.size), h.tb.below hb h.tb.lt, h.xs.below (hb.mono h.hB), Nat.le_trans h.hB hb.size⟩

set_option maxRecDepth 100000 in
set_option maxHeartbeats 6400000 in
theorem lawAnc_any (a : Option Addr) (c : Nat) (t : Tr) (k : Int) (w : World) (gm : GM w) (hk0 : 0 ≤ k ∧ k ≤ 65535) (h : Nods w w.heap.size a c t) :
    Calls Tryd.prog 4 #[.agg #[.slice a t.length c], .int .u16 k] w fun e w' => e = .returned (.bool true) ∧ Below w.heap.size w w' := by
  have H := Lib.hid h
  have hll := h.len
  have T0 := Lib.hid (One.new w (.slice a t.length c) 24)
  have B0 := Lib.hid ((Below.refl w.heap.size w).alloc (Nat.le_refl _) (.cells #[.slice a t.length c] 24))
  by_cases hq : (valT t).1 = 0
  · obtain ⟨hd, p4⟩ := valT_ok hq
    have o2 := Pass.ok2 hd (p4.mono (by omega))
    have C1 := Lib.hid (fun W (hb : Below w.heap.size w W) => (allPaths_any a c t W (h.up hb)).mono fun e w' hp => hp.good hq)
    have CS := Lib.hid (fun (p : ByteArray) W (hb : Below w.heap.size w W) (hp : p.size ≤ maxLen) => pathSplit_any p W (gm.below hb) hp)
    have CL := Lib.hid (fun (p : ByteArray) W (hb : Below w.heap.size w W) (hp : p.size ≤ maxLen) => lookup_any a c t p W (gm.below hb) hp (h.up hb))
    have O2 := Lib.hid o2
    have HD := Lib.hid hd
    have P4 := Lib.hid p4
    have HQ := Lib.hid hq
    unfold SplitPost at CS
    unfold faultV at CL
    obtain ⟨kn, rfl⟩ := Int.eq_ofNat_of_zero_le hk0.1
    have hk1 := hk0.2
    clear hd p4 o2 hq h gm hk0
    go_enter Tryd.func4, Tryd.ntmps4
    go_wp2_with fail
    refine (C1.out _ B0.out).mono ?_
    rintro e W1 ⟨v, P, rfl, ha, hs, b1⟩
    have T1 := Lib.hid ((T0.out.below b1 T0.out.lt).alloc (.cells #[.int .i64 0, .int .i64 0] 26))
    have B1 := Lib.hid ((B0.out.trans (b1.mono B0.out.size)).alloc (Nat.le_trans B0.out.size b1.size) (.cells #[.int .i64 0, .int .i64 0] 26))
    have F1 := Lib.hid (FBox.new W1 0 0 26)
    have S1 := Lib.hid (show Strs (W1.alloc (.cells #[.int .i64 0, .int .i64 0] 26)) W1.heap.size v P from hs.below ((Below.refl _ _).alloc (Nat.le_refl _) _))
    obtain ⟨hP0, hPx⟩ := all_some O2.out.toOk1 O2.out.from0 ha
    have HPX := Lib.hid hPx
    have hlz : ((P.length : Int) == 0) = false := by rw [beq_eq_false_iff_ne]; omega
    have hPl : P.length ≤ 35184372088832 := by obtain ⟨_, _, _, _, hl, _⟩ := hs; exact hl
    have hPc : ∃ xa xc, v = .slice xa P.length xc ∧ P.length ≤ xc := by obtain ⟨xa, xc, hv, hc, _⟩ := hs; exact ⟨xa, xc, hv, hc⟩
    obtain ⟨xa, xc, rfl, hxc⟩ := hPc
    clear b1 ha hs hPx
    go_wp2_with fail
    refine (empty_any _).mono ?_
    rintro e Y1 ⟨eb, rfl, hn1, y1⟩
    have BY1 := Lib.hid (B1.out.trans (y1.mono B1.out.size))
    have FY1 := Lib.hid (F1.out.below y1 F1.out.lt)
    have TY1 := Lib.hid (T1.out.below y1 T1.out.lt)
    have SY1 := Lib.hid (S1.out.below (y1.mono (by simp)))
    have HE := Lib.hid ((allPaths_any _ _ _ Y1 hn1).mono fun e w' hp => hp.good valT_emptyT)
    clear y1 hn1
    go_wp2_with fail
    refine HE.out.mono ?_
    rintro e Y2 ⟨ve, Pe, rfl, hae, hse, y2⟩
    obtain ⟨ea, ec, rfl⟩ := one_path hae hse
    have BY2 := Lib.hid ((BY1.out.trans (y2.mono BY1.out.size)).alloc (Nat.le_trans BY1.out.size y2.size) (.cells #[.int .i64 0, .int .i64 0] 26))
    have TY2 := Lib.hid ((TY1.out.below y2 TY1.out.lt).alloc (.cells #[.int .i64 0, .int .i64 0] 26))
    obtain ⟨l8, a0, a1, _, _⟩ := FY1.out.below y2 FY1.out.lt
    have SY2 := Lib.hid (show Strs (Y2.alloc (.cells #[.int .i64 0, .int .i64 0] 26)) W1.heap.size (.slice xa P.length xc) P from (SY1.out.below (y2.mono (by have := FY1.out.lt; omega))).below ((Below.refl _ _).alloc (by omega) _))
    clear hae hse y2 HE
    have hjl : kn % P.length < P.length := Nat.mod_lt _ hP0
    have hrm : Int.tmod (kn : Int) (P.length : Int) = ((kn % P.length : Nat) : Int) := (Int.ofNat_tmod kn P.length).symm
    obtain ⟨xb, xo, rfl, hxb, hxj⟩ := strs_at SY2.out hP0
    have g0 := hxj _ hjl
    have hym : P.getD (kn % P.length) ByteArray.empty ∈ P := by rw [getD_eq hjl]; exact List.getElem_mem hjl
    obtain ⟨xs, m, hr, hy⟩ := HPX.out _ hym
    rw [hy] at g0
    generalize kn % P.length = j at *
    obtain ⟨hsf, hsl⟩ := path_split HD.out P4.out hr
    obtain ⟨_, _, hvn⟩ := O2.out.toOk1.rch hr O2.out.ne (by rw [O2.out.root]; decide)
    have hx40 : xs.length ≤ 40 := Nat.le_trans (O2.out.fin _ _ hr) O2.out.le
    have HSP := Lib.hid (CS.out (bP xs) _ BY2.out (bP_fits hvn hx40))
    rw [hsf, hsl] at HSP
    have HR := Lib.hid hr
    have jlz : (j : Int) < (P.length : Int) := by omega
    have jz : (0 : Int) ≤ (j : Int) := Int.natCast_nonneg _
    have knz : (0 : Int) ≤ (kn : Int) := Int.natCast_nonneg _
    clear hxj hym hy hsf hsl hvn hr
    go_wp2_with fail
    refine HSP.out.mono ?_
    rintro e W3 ⟨v9, rfl, hx9, b9, _⟩
    have I3 := Lib.hid (show AInv w (W3.alloc (.cells #[.int .i64 0, .int .i64 0] 26)) a c t W3.heap.size v9 xs from
      ⟨(BY2.out.trans (b9.mono BY2.out.size)).alloc (Nat.le_trans BY2.out.size b9.size) _, (TY2.out.below b9 TY2.out.lt).alloc _, hx9.below ((Below.refl _ _).alloc (Nat.le_refl _) _), by simp⟩)
    obtain ⟨na, nc, rfl, hnc, _⟩ := hx9
    clear b9 HSP C1 CS g0 l8 a0 a1
    go_wp2_with fail
    go_loopg [11, 12, 13, 14, 15] xs.length (fun gg s11 _ _ _ _ wr => ∃ i : Nat, i ≤ xs.length ∧ xs.length - i ≤ gg ∧ s11 = .int .i64 i ∧ Aside (AInv w wr a c t W3.heap.size (.slice na xs.length nc) xs))
    case atStart => exact ⟨0, by omega, by omega, rfl, I3.out⟩
    case round =>
      obtain ⟨i, hi, hg, rfl, I⟩ := hrel
      clear I3
      obtain ⟨w4, rfl⟩ : ∃ w4 : World, w4 = wr := ⟨_, rfl⟩
      by_cases hlt : i < xs.length
      · have hltz : (i : Int) < (xs.length : Int) := by omega
        have hi0 : (0 : Int) ≤ (i : Int) := Int.natCast_nonneg _
        have hic : (i : Int) ≤ (nc : Int) := by omega
        have hil : (i : Int) ≤ (xs.length : Int) := by omega
        have hm9 : xs.length - (i + 1) < xs.length - i := Nat.sub_lt_sub_left hlt (Nat.lt_succ_self i)
        obtain ⟨n, hrn, hkn⟩ := rch_prefix O2.out.toOk1 HR.out i hlt
        obtain ⟨hnt, _, hvn⟩ := O2.out.toOk1.rch hrn O2.out.ne (by rw [O2.out.root]; decide)
        have hlen : (xs.take i).length ≤ 40 := by rw [List.length_take]; omega
        obtain ⟨nb, no, rfl, hnb, _⟩ := strs_at I.out.xs (by omega)
        have HJ := Lib.hid (show Calls Tryd.prog 11 #[.slice (some ⟨nb, no, none⟩) i nc] w4 fun e w' => e = .returned (.tuple #[.string (bP (xs.take i)), .agg #[.int .i64 0, .int .i64 0]]) ∧ Below w4.heap.size w4 w' from by
          have hj := pathJoin_any _ (xs.take i) w4 ((I.out.xs.cut hi).more I.out.hB)
          rw [Pass.joins HD.out P4.out hrn] at hj
          exact hj)
        have HL := Lib.hid (fun W hb => CL.out (bP (xs.take i)) W hb (bP_fits hvn hlen))
        rw [look_path HQ.out hrn] at HL
        obtain ⟨b, o, ve, vd, va, vx, rfl, hb, hc, _⟩ := H.out.one hnt
        have hc0 := hc.c0
        rw [hkn] at hc0
        have KC := Lib.hid (fun W (hW : Below w.heap.size w W) => (hW.cell (p := ⟨b, o + n * 8, none⟩) hb).trans hc0)
        have nlz : (n : Int) < (t.length : Int) := by omega
        have nlz2 : decide ((t.length : Int) ≤ (n : Int)) = false := by rw [decide_eq_false_iff_not]; omega
        have nz : (0 : Int) ≤ (n : Int) := Int.natCast_nonneg _
        have nz2 : decide ((n : Int) < 0) = false := by rw [decide_eq_false_iff_not]; omega
        clear hc hc0 hrn hvn hkn
        generalize xs.take i = ys at *
        go_wp2_with fail
        refine HJ.out.mono ?_
        rintro e W5 ⟨rfl, b5⟩
        have I5 := Lib.hid ((I.out.step b5).step ((Below.refl W5.heap.size W5).alloc (Nat.le_refl _) (.cells #[.int .i64 0, .int .i64 0] 26)))
        have F5 := Lib.hid (FBox.new W5 0 0 26)
        have tc := (I.out.step b5).tb.c0
        have tl := (I.out.step b5).tb.lt
        clear b5 HJ
        go_wp2_with fail
        refine (HL.out _ I5.out.b).mono ?_
        rintro e W6 ⟨rfl, b6⟩
        have I6 := Lib.hid (I5.out.step b6)
        have I7 := Lib.hid (I6.out.step ((Below.refl W6.heap.size W6).alloc (Nat.le_refl _) (.cells #[.int .i64 0, .int .i64 0] 26)))
        obtain ⟨l8, a0, a1, _, _⟩ := F5.out.below b6 F5.out.lt
        have tc6 := I6.out.tb.c0
        have tl6 := I6.out.tb.lt
        have kc6 := KC.out _ I6.out.b
        have kl6 : b < W6.heap.size := Nat.lt_of_lt_of_le hb I6.out.b.size
        clear b6 HL KC tc tl
        go_wp2_with fail
        go_roundg (xs.length - (i + 1))
        case measure => exact Nat.lt_of_lt_of_le hm9 hg
        case rel => exact ⟨i + 1, by omega, by omega, by go_num, I7.out⟩
      · obtain rfl : i = xs.length := by omega
        go_wp2
        go_ret
        exact ⟨rfl, I.out.b⟩
  · have C1 := Lib.hid (fun W (hb : Below w.heap.size w W) => (allPaths_any a c t W (h.up hb)).mono fun e w' hp => hp.bad hq)
    have hq1 : ((valT t).1 != 0) = true := by simpa using hq
    have hq2 : ((valT t).1 == 0) = false := by simpa using hq
    clear hq h gm
    generalize (valT t).1 = q at *
    generalize (valT t).2 = r at *
    go_enter Tryd.func4, Tryd.ntmps4
    go_wp2_with fail
    refine (C1.out _ B0.out).mono ?_
    rintro e W1 ⟨rfl, b1⟩
    have B1 := Lib.hid ((B0.out.trans (b1.mono B0.out.size)).alloc (Nat.le_trans B0.out.size b1.size) (.cells #[.int .i64 q, .int .i64 r] 26))
    have F1 := Lib.hid (FBox.new W1 q r 26)
    clear b1
    go_wp2_with fail
    refine (empty_any _).mono ?_
    rintro e Y1 ⟨eb, rfl, hn1, y1⟩
    have BY1 := Lib.hid (B1.out.trans (y1.mono B1.out.size))
    have FY1 := Lib.hid (F1.out.below y1 F1.out.lt)
    have HE := Lib.hid ((allPaths_any _ _ _ Y1 hn1).mono fun e w' hp => hp.good valT_emptyT)
    clear y1 hn1
    go_wp2_with fail
    refine HE.out.mono ?_
    rintro e Y2 ⟨ve, Pe, rfl, hae, hse, y2⟩
    obtain ⟨ea, ec, rfl⟩ := one_path hae hse
    have BY2 := Lib.hid ((BY1.out.trans (y2.mono BY1.out.size)).alloc (Nat.le_trans BY1.out.size y2.size) (.cells #[.int .i64 0, .int .i64 0] 26))
    obtain ⟨l8, a0, a1, _, _⟩ := FY1.out.below y2 FY1.out.lt
    clear hae hse y2 HE
    go_wp2
    go_ret
    exact ⟨rfl, BY2.out⟩

theorem lawAncU_any (a : Option Addr) (c : Nat) (t : Tr) (k : Int) (w : World) (gm : GM w) (hk : (Lit.int .u16 k).wf = true) (h : Nods w w.heap.size a c t) :
    Calls Tryd.prog 4 #[.agg #[.slice a t.length c], .int .u16 k] w fun e w' => e = .returned (.bool true) ∧ Below w.heap.size w w' :=
  lawAnc_any a c t k w gm (by
    simp only [Lit.wf, Bool.and_eq_true, decide_eq_true_eq] at hk
    have e1 : IntKind.u16.min = 0 := by decide
    have e2 : IntKind.u16.max = 65535 := by decide
    omega) h

end Go.Proofs.YtglaohaeaofnhaaDoor
