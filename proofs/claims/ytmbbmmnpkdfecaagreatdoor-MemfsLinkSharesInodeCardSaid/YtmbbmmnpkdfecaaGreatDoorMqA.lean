/- What a law of package memfs or of its neighbours needs, at the translation of this seat.
   Condition: as each theorem states; this text: FsLook, QtPlain, QtReach, QtUsage, IntRow, QtInt, QtVisit, QtFile, QtRem, QtResize, QrBase. -/
import Derived.Test.YtmbbmmnpkdfecaaGreatDoorMb10
import Derived.Test.YtmbbmmnpkdfecaaGreatDoorMb13
import Derived.IntWalk
import Derived.Test.YtmbbmmnpkdfecaaGreatDoorMb7
import Derived.Deep.RegionHeld3
import Derived.Test.YtmbbmmnpkdfecaaGreatDoorMb1
import Derived.Maps.AppendAt
import Derived.Test.YtmbbmmnpkdfecaaGreatDoorMb9
import Derived.Test.YtmbbmmnpkdfecaaGreatDoorMb8
import Derived.Test.YtmbbmmnpkdfecaaGreatDoorMb34
import Derived.Test.YtmbbmmnpkdfecaaGreatDoorMhC

set_option linter.all false

/- fstree.Lookup at every tree and string. Conditions: the library's variable that bounds a search holds an int; the string is of at most the model's longest length; the cells lie in memory as they read. -/

set_option linter.all false
namespace Go.Proofs.YtmbbmmnpkdfecaaGreatDoor
open Go.RowKit

/-- The inode and the fault that Lookup returns. -/
def lookF (t : Tr) (p : ByteArray) : Nat × Int × Int :=
  if (valT t).1 ≠ 0 then (0, (valT t).1, (valT t).2)
  else if (splitF p).1 ≠ 0 then (0, (splitF p).1, -1 - (splitF p).2)
  else ((resT t (splitL p) 0 0).1, (resT t (splitL p) 0 0).2.1, (((resT t (splitL p) 0 0).2.2 : Nat) : Int))
theorem lookF_bad {t : Tr} {p : ByteArray} (h : (valT t).1 ≠ 0) : lookF t p = (0, (valT t).1, (valT t).2) := by unfold lookF; rw [if_pos h]
theorem lookF_split {t : Tr} {p : ByteArray} (h : (valT t).1 = 0) (h2 : (splitF p).1 ≠ 0) : lookF t p = (0, (splitF p).1, -1 - (splitF p).2) := by unfold lookF; rw [if_neg (by simpa using h), if_pos h2]
theorem lookF_res {t : Tr} {p : ByteArray} (h : (valT t).1 = 0) (h2 : (splitF p).1 = 0) : lookF t p = ((resT t (splitL p) 0 0).1, (resT t (splitL p) 0 0).2.1, (((resT t (splitL p) 0 0).2.2 : Nat) : Int)) := by unfold lookF; rw [if_neg (by simpa using h), if_neg (by simpa using h2)]
theorem splitF_bound {p : ByteArray} : 0 ≤ (splitF p).2 ∧ (splitF p).2 ≤ 200 := by
  unfold splitF
  split
  · simp
  · rename_i hl
    split
    · simp
    · rename_i c r hd
      split
      · split
        · simp
        · have h1 := comps_len_le r
          have h2 : r.length ≤ 100 := by
            have e : p.data.toList.length = p.size := by simp
            rw [hd] at e
            simp at e
            omega
          unfold compFault
          split
          · rename_i h3
            have : firstBad (comps r) < (comps r).length := h3
            constructor
            · exact Int.natCast_nonneg _
            · show ((firstBad (comps r) : Nat) : Int) ≤ 200
              omega
          · split <;> simp
      · simp

/-- What holds along the components. -/
structure KInv (w wr : World) (a : Option Addr) (c : Nat) (t : Tr) (B : Nat) (v : Value) (xs : List ByteArray) : Prop where
  b : Below w.heap.size w wr
  tb : One wr w.heap.size (.slice a t.length c)
  fb : FBox wr (w.heap.size + 1) 0 0
  xs : Strs wr B v xs
  hB : B ≤ wr.heap.size
theorem KInv.step {w wr z : World} {a : Option Addr} {c : Nat} {t : Tr} {B : Nat} {v : Value} {xs : List ByteArray} (h : KInv w wr a c t B v xs) (hb : Below wr.heap.size wr z) : KInv w z a c t B v xs :=
  ⟨h.b.trans (hb.mono h.b.size), h.tb.below hb h.tb.lt, h.fb.below hb h.fb.lt, h.xs.below (hb.mono h.hB), Nat.le_trans h.hB hb.size⟩

set_option maxRecDepth 100000 in
set_option maxHeartbeats 6400000 in
theorem lookup_any (a : Option Addr) (c : Nat) (t : Tr) (p : ByteArray) (w : World) (gm : GM w) (hp : p.size ≤ maxLen) (h : Nods w w.heap.size a c t) :
    Calls Tryz.prog 23 #[.agg #[.slice a t.length c], .string p] w fun e w' => e = .returned (.tuple #[.int .i64 ((lookF t p).1 : Nat), faultV (lookF t p).2.1 (lookF t p).2.2]) ∧ Below w.heap.size w w' := by
  have H := Lib.hid h
  have C1 := Lib.hid (fun W (hb : Below w.heap.size w W) => validT_any a c t W (h.up hb))
  have C2 := Lib.hid (fun W (hb : Below w.heap.size w W) => pathSplit_any p W (gm.below hb) hp)
  have T0 := Lib.hid (show One ((w.alloc (.cells #[.slice a t.length c] 24)).alloc (.cells #[.int .i64 0, .int .i64 0] 37)) w.heap.size (.slice a t.length c) from (One.new w _ _).alloc _)
  have F0 := Lib.hid (show FBox ((w.alloc (.cells #[.slice a t.length c] 24)).alloc (.cells #[.int .i64 0, .int .i64 0] 37)) (w.heap.size + 1) 0 0 from (FBox.new (w.alloc _) 0 0 _).at_ (by simp))
  have B0 := Lib.hid (show Below w.heap.size w ((w.alloc (.cells #[.slice a t.length c] 24)).alloc (.cells #[.int .i64 0, .int .i64 0] 37)) from ((Below.refl _ _).alloc (Nat.le_refl _) _).alloc (by first | omega | (simp; done) | (simp; omega)) _)
  unfold SplitPost at C2
  unfold faultV at C1
  by_cases hq : (valT t).1 = 0
  · have hz := valT_zero hq
    obtain ⟨hd, p4⟩ := valT_ok hq
    have O1 := Lib.hid (Pass.ok1 hd (p4.mono (by omega)))
    rw [hz] at C1
    by_cases hs : (splitF p).1 = 0
    · rw [lookF_res hq hs]
      rw [hs] at C2
      clear hq hz hd p4 hs h gm
      have hne := O1.out.ne
      have K00 := Lib.hid (show (nod t 0).k ≠ 0 by rw [O1.out.root]; decide)
      generalize splitL p = xs at *
      generalize (splitF p).2 = sr at *
      generalize hR : resT t xs 0 0 = R at *
      have HR := Lib.hid hR
      clear hR
      go_enter Tryz.func23, Tryz.ntmps23
      go_wp2_with fail
      refine (C1.out _ B0.out).mono ?_
      rintro e W1 ⟨rfl, b1⟩
      have T1 := Lib.hid ((T0.out.below b1 T0.out.lt).alloc (.cells #[.int .i64 0, .int .i64 0] 37))
      have F1 := Lib.hid ((F0.out.below b1 F0.out.lt).alloc (.cells #[.int .i64 0, .int .i64 0] 37))
      have B1 := Lib.hid ((B0.out.trans (b1.mono B0.out.size)).alloc (Nat.le_trans B0.out.size b1.size) (.cells #[.int .i64 0, .int .i64 0] 37))
      clear b1
      go_wp2_with fail
      refine (C2.out _ B1.out).mono ?_
      rintro e W2 ⟨v, rfl, hxs, b2, hlow⟩
      have I2 := Lib.hid (show KInv w (W2.alloc (.cells #[.int .i64 0, .int .i64 sr] 37)) a c t W2.heap.size v xs from
        ⟨(B1.out.trans (b2.mono B1.out.size)).alloc (Nat.le_trans B1.out.size b2.size) _, (T1.out.below b2 T1.out.lt).alloc _, (F1.out.below b2 F1.out.lt).alloc _, hxs.below ((Below.refl _ _).alloc (Nat.le_refl _) _), by simp⟩)
      obtain ⟨xa, xc, rfl, hxc, hxl, _, _⟩ := hxs
      clear b2 hlow C1 C2 T0 F0 B0 T1 F1
      go_wp2_with fail
      go_loopg [9, 10, 11, 12, 13, 14, 37] xs.length (fun gg s9 _ _ _ _ _ s37 wr => ∃ i n : Nat, i ≤ xs.length ∧ xs.length - i ≤ gg ∧ s9 = .int .i64 n ∧ s37 = .int .i64 i ∧ n < t.length ∧ Aside ((nod t n).k ≠ 0) ∧ Aside (KInv w wr a c t W2.heap.size (.slice xa xs.length xc) xs) ∧ Aside (resT t (xs.drop i) n i = R))
      case atStart => exact ⟨0, 0, by omega, by omega, rfl, rfl, hne, K00.out, I2.out, (show resT t (xs.drop 0) 0 0 = R from HR.out)⟩
      case round =>
        obtain ⟨i, n, hi, hg, rfl, rfl, hn, K0, I, RE⟩ := hrel
        clear I2 HR K00
        obtain ⟨w3, rfl⟩ : ∃ w3 : World, w3 = wr := ⟨_, rfl⟩
        have tc := I.out.tb.c0
        have tl := I.out.tb.lt
        have hbs := I.out.b.size
        by_cases hlt : i < xs.length
        · have hltz : (i : Int) < (xs.length : Int) := by omega
          have hi0 : (0 : Int) ≤ (i : Int) := Int.natCast_nonneg _
          have hm9 : xs.length - (i + 1) < xs.length - i := Nat.sub_lt_sub_left hlt (Nat.lt_succ_self i)
          have nlz : (n : Int) < (t.length : Int) := by omega
          have nz : (0 : Int) ≤ (n : Int) := Int.natCast_nonneg _
          obtain ⟨b, o, ve, vd, va, vx, rfl, hb, hc, hs⟩ := (H.out.up I.out.b).one hn
          have hes := hs.es
          obtain ⟨ea, ec, rfl, hec, hel, hef, hex⟩ := hs.es
          obtain ⟨da, dc, rfl, _⟩ := hs.dl
          obtain ⟨aa, acp, rfl, _⟩ := hs.ac
          obtain ⟨ya, yc, rfl, _⟩ := hs.xs
          have h0 := hc.c0
          have h1 := hc.c1
          have h2 := hc.c2
          have h3 := hc.c3
          have h4 := hc.c4
          have h5 := hc.c5
          have h6 := hc.c6
          have h7 := hc.c7
          have SRT := Lib.hid (show SrtE (kids t n) from (O1.out.fine n).srt)
          have FD := Lib.hid (fun x W (hb : Below w3.heap.size w3 W) => (show Calls Tryz.prog 49 #[.slice ea (kids t n).length ec, .string x] W _ from Ffind_any _ (kids t n) x W (hes.up hb) SRT.out))
          change (kids t n).length ≤ ec at hec
          change (kids t n).length ≤ 35184372088832 at hel
          change w3.cell? ⟨b, o + n * 8 + 2, none⟩ = some (.slice ea (kids t n).length ec) at h2
          have HEX := Lib.hid (show 0 < (kids t n).length → ∃ b o, ea = some ⟨b, o, none⟩ ∧ b < w3.heap.size ∧ ∀ j, j < (kids t n).length →
            w3.cell? ⟨b, o + j * 2, none⟩ = some (.string ((kids t n).getD j D0).n) ∧ w3.cell? ⟨b, o + j * 2 + 1, none⟩ = some (.int .i64 ((kids t n).getD j D0).i) from hex)
          have hkind := (O1.out.fine n).kind
          have HFD := Lib.hid (fun x => kid_found O1.out (n := n) (x := x))
          have RF := Lib.hid (fun (hk : (nod t n).k = 2) => resT_file (t := t) hlt hk)
          have RM := Lib.hid (fun (hk : (nod t n).k ≠ 2) hf => resT_miss (t := t) hlt hk hf)
          have RH := Lib.hid (fun (hk : (nod t n).k ≠ 2) hf => resT_hit (t := t) hlt hk hf)
          obtain ⟨xb, xo, rfl, hxb, hxj⟩ := strs_at I.out.xs (by omega)
          have x0 := hxj i hlt
          have hkk : (nod t n).k = 1 ∨ (nod t n).k = 2 := by
            rcases hkind with h9 | h9 | h9
            · exact absurd h9 K0.out
            · exact .inl h9
            · exact .inr h9
          clear hc hs hes hef hex hxj hkind
          generalize xs.getD i ByteArray.empty = x at *
          change w3.cell? ⟨b, o + n * 8 + 3, none⟩ = some (.slice da (nod t n).dl dc) at h3
          generalize (nod t n).dl = gd at *
          generalize (nod t n).ac.length = ga at *
          generalize (nod t n).xs.length = gx at *
          generalize (nod t n).o = go at *
          generalize (nod t n).q = gq at *
          generalize (nod t n).v = gv at *
          generalize hm : (kids t n).length = m at *
          rcases hkk with hk | hk
          · rw [hk] at h0
            have RM2 := Lib.hid (fun hf => RM.out (by rw [hk]; decide) hf)
            have RH2 := Lib.hid (fun hf => RH.out (by rw [hk]; decide) hf)
            clear hk RM RH RF
            have I4 := Lib.hid (I.out.step ((Below.refl w3.heap.size w3).alloc (Nat.le_refl _) (.cells #[.int .i64 1, .int .i64 go, .slice ea m ec, .slice da gd dc, .slice aa ga acp, .slice ya gx yc, .int .i64 gq, .int .i64 gv] 63)))
            have B4 := Lib.hid ((Below.refl w3.heap.size w3).alloc (Nat.le_refl _) (.cells #[.int .i64 1, .int .i64 go, .slice ea m ec, .slice da gd dc, .slice aa ga acp, .slice ya gx yc, .int .i64 gq, .int .i64 gv] 63))
            cases hf : fndE (kids t n) x with
            | true =>
              obtain ⟨hl9, hi9, hn9, hk9⟩ := HFD.out x hf
              have RE2 := Lib.hid ((RH2.out hf).symm.trans RE.out)
              have FD2 := Lib.hid (FD.out x _ B4.out)
              rw [hf] at FD2
              obtain ⟨be, oe, rfl, hbe, hje⟩ := HEX.out (by omega)
              have e1 := (hje _ hl9).2
              have hlm : lowE (kids t n) x < m := hl9
              clear hje hf HEX hm hl9
              generalize ((kids t n).getD (lowE (kids t n) x) D0).i = ei at *
              generalize lowE (kids t n) x = lo at *
              obtain ⟨n2, rfl⟩ := Int.eq_ofNat_of_zero_le (Int.le_of_lt hi9)
              simp only [Int.toNat_natCast] at hn9 hk9 RE2
              have K9 := Lib.hid hk9
              have loz : (lo : Int) < (m : Int) := by omega
              have lo0 : (0 : Int) ≤ (lo : Int) := Int.natCast_nonneg _
              clear hk9
              go_wp2_with fail
              refine FD2.out.mono ?_
              rintro e W5 ⟨rfl, b5⟩
              have I5 := Lib.hid (I4.out.step b5)
              have s5 := b5.size
              have g2 : W5.cell? ⟨w3.heap.size, 2, none⟩ = some (.slice (some ⟨be, oe, none⟩) m ec) := (b5.cell (p := ⟨w3.heap.size, 2, none⟩) (by simp)).trans (by simp)
              have ge := ((B4.out.trans (b5.mono B4.out.size)).cell (p := ⟨be, oe + lo * 2 + 1, none⟩) hbe).trans e1
              have gl : w3.heap.size < W5.heap.size := by simp at s5; omega
              clear b5 e1 h0 h1 h2 h3 h4 h5 h6 h7 x0 tc tl
              go_wp2_with fail
              go_roundg (xs.length - (i + 1))
              case measure => exact Nat.lt_of_lt_of_le hm9 hg
              case rel => exact ⟨i + 1, n2, by omega, by omega, rfl, by go_num, hn9, K9.out, I5.out, RE2.out⟩
            | false =>
              have RE2 := Lib.hid ((RM2.out hf).symm.trans RE.out)
              have hRR := RE2.out.symm
              subst hRR
              have FD2 := Lib.hid (FD.out x _ B4.out)
              rw [hf] at FD2
              clear hf HEX hm
              generalize lowE (kids t n) x = lo at *
              go_wp2_with fail
              refine FD2.out.mono ?_
              rintro e W5 ⟨rfl, b5⟩
              have I5 := Lib.hid (I4.out.step b5)
              obtain ⟨l9, a0, a1, f0, f1⟩ := I5.out.fb
              clear b5 h0 h1 h2 h3 h4 h5 h6 h7 x0 tc tl
              go_wp2
              exact bodyPost_ret (v := .tuple #[.int .i64 0, faultV 6 i]) (by simp [results, Tryz.results23, faultV, go_sem, a0, a1]) rfl ⟨rfl, (I5.out.b.setCell (by first | omega | (simp; done) | (simp; omega)) _).setCell (by first | omega | (simp; done) | (simp; omega)) _⟩
          · rw [hk] at h0
            have hRR := ((RF.out hk).symm.trans RE.out).symm
            subst hRR
            clear hk RM RH RF
            obtain ⟨l9, a0, a1, f0, f1⟩ := I.out.fb
            go_wp2
            exact bodyPost_ret (v := .tuple #[.int .i64 0, faultV 8 i]) (by simp [results, Tryz.results23, faultV, go_sem, a0, a1, l9]) rfl ⟨rfl, by repeat (first | exact I.out.b | refine Below.setCell ?_ (by first | omega | (simp; done) | (simp; omega)) _ | refine Below.alloc ?_ (by first | omega | (simp; done) | (simp; omega)) _)⟩
        · obtain rfl : i = xs.length := by omega
          have hRR := ((resT_end (t := t) (xs := xs) (n := n)).symm.trans RE.out).symm
          subst hRR
          obtain ⟨l9, a0, a1, f0, f1⟩ := I.out.fb
          go_wp2
          exact bodyPost_ret (v := .tuple #[.int .i64 n, faultV 0 0]) (by simp [results, Tryz.results23, faultV, go_sem, a0, a1]) rfl ⟨rfl, (I.out.b.setCell (by first | omega | (simp; done) | (simp; omega)) _).setCell (by first | omega | (simp; done) | (simp; omega)) _⟩
    · rw [lookF_split hq hs]
      have hbd := splitF_bound (p := p)
      have hs1 : ((splitF p).1 != 0) = true := by simpa using hs
      have hs2 : ((splitF p).1 == 0) = false := by simpa using hs
      clear hq hz hd p4 hs h gm
      generalize splitL p = xs at *
      generalize (splitF p).1 = sq at *
      generalize (splitF p).2 = sr at *
      have hwr : IntKind.i64.wrap (-1 - sr) = -1 - sr := IntWalk.i64_in _ (by omega)
      go_enter Tryz.func23, Tryz.ntmps23
      go_wp2_with fail
      refine (C1.out _ B0.out).mono ?_
      rintro e W1 ⟨rfl, b1⟩
      have F1 := Lib.hid ((F0.out.below b1 F0.out.lt).alloc (.cells #[.int .i64 0, .int .i64 0] 37))
      have B1 := Lib.hid ((B0.out.trans (b1.mono B0.out.size)).alloc (Nat.le_trans B0.out.size b1.size) (.cells #[.int .i64 0, .int .i64 0] 37))
      clear b1
      go_wp2_with fail
      refine (C2.out _ B1.out).mono ?_
      rintro e W2 ⟨v, rfl, _, b2, _⟩
      have F2 := Lib.hid (F1.out.below b2 F1.out.lt)
      have B2 := Lib.hid (B1.out.trans (b2.mono B1.out.size))
      obtain ⟨l9, a0, a1, f0, f1⟩ := F2.out
      have hs2' := B2.out.size
      clear b2 C1 C2
      go_wp2
      go_region
      all_goals
        go_wp2
        exact bodyPost_ret (v := .tuple #[.int .i64 0, faultV sq (-1 - sr)]) (by simp [results, Tryz.results23, faultV, go_sem, a0, a1, l9]) rfl ⟨rfl, by repeat (first | exact B2.out | refine Below.setCell ?_ (by first | omega | (simp; done) | (simp; omega)) _ | refine Below.alloc ?_ (by first | omega | (simp; done) | (simp; omega)) _ | refine Below.drew ?_)⟩
  · rw [lookF_bad hq]
    have hq1 : ((valT t).1 != 0) = true := by simpa using hq
    have hq2 : ((valT t).1 == 0) = false := by simpa using hq
    clear hq h gm C2
    generalize (valT t).1 = q at *
    generalize (valT t).2 = r at *
    go_enter Tryz.func23, Tryz.ntmps23
    go_wp2_with fail
    refine (C1.out _ B0.out).mono ?_
    rintro e W1 ⟨rfl, b1⟩
    have F1 := Lib.hid (F0.out.below b1 F0.out.lt)
    have B1 := Lib.hid (B0.out.trans (b1.mono B0.out.size))
    obtain ⟨l9, a0, a1, f0, f1⟩ := F1.out
    have hs1 := B1.out.size
    clear b1
    go_wp2
    go_region
    all_goals
      go_wp2
      exact bodyPost_ret (v := .tuple #[.int .i64 0, faultV q r]) (by simp [results, Tryz.results23, faultV, go_sem, a0, a1, l9]) rfl ⟨rfl, by repeat (first | exact B1.out | refine Below.setCell ?_ (by first | omega | (simp; done) | (simp; omega)) _ | refine Below.alloc ?_ (by first | omega | (simp; done) | (simp; omega)) _ | refine Below.drew ?_)⟩

end Go.Proofs.YtmbbmmnpkdfecaaGreatDoor

/- Quotas in plain words: who owns how much, how much the chosen inodes hold. No program. -/

set_option linter.all false
namespace Go.Proofs.YtmbbmmnpkdfecaaGreatDoor
open Go.RowKit

theorem Ok1.own {t : Tr} (h : Ok1 t) {n : Nat} (hn : n < t.length) : ∃ u : Nat, (nod t n).o = (u : Int) ∧ u < 8 := by
  have hc := h.code n hn
  have key : 0 ≤ (nod t n).o ∧ (nod t n).o ≤ 7 := by
    unfold codeN at hc
    split at hc
    · unfold codeF at hc
      split at hc
      · rename_i h0; omega
      · cases hc
    · split at hc
      · have h1 := (or4_zero hc).1
        unfold codeC at h1
        split at h1
        · cases h1
        · rename_i h2; omega
      · cases hc
  obtain ⟨u, hu⟩ := Int.eq_ofNat_of_zero_le key.1
  exact ⟨u, hu, by omega⟩

/-- How much user u owns of the first k inodes. -/
def ownTo (t : Tr) (k u : Nat) : Nat := ((List.range k).map fun i => if (nod t i).o = (u : Int) then (nod t i).dl else 0).sum
theorem ownTo_zero (t : Tr) (u : Nat) : ownTo t 0 u = 0 := by unfold ownTo; simp
theorem ownTo_succ (t : Tr) (k u : Nat) : ownTo t (k + 1) u = ownTo t k u + if (nod t k).o = (u : Int) then (nod t k).dl else 0 := by
  unfold ownTo; rw [List.range_succ, List.map_append, List.sum_append]; simp
theorem ownTo_le {t : Tr} (h : Ok1 t) (u : Nat) : ∀ k, ownTo t k u ≤ k * 200
  | 0 => by rw [ownTo_zero]; omega
  | k + 1 => by
    have := ownTo_le h u k
    have := (h.fine k).dl
    rw [ownTo_succ]
    split <;> omega
/-- How much the chosen ones of the first k inodes hold. -/
def szTo (t : Tr) (f : Nat → Bool) (k : Nat) : Nat := ((List.range k).map fun i => if f i = true then (nod t i).dl else 0).sum
theorem szTo_zero (t : Tr) (f : Nat → Bool) : szTo t f 0 = 0 := by unfold szTo; simp
theorem szTo_succ (t : Tr) (f : Nat → Bool) (k : Nat) : szTo t f (k + 1) = szTo t f k + if f k = true then (nod t k).dl else 0 := by
  unfold szTo; rw [List.range_succ, List.map_append, List.sum_append]; simp
theorem szTo_le {t : Tr} (h : Ok1 t) (f : Nat → Bool) : ∀ k, szTo t f k ≤ k * 200
  | 0 => by rw [szTo_zero]; omega
  | k + 1 => by
    have := szTo_le h f k
    have := (h.fine k).dl
    rw [szTo_succ]
    split <;> omega
theorem szTo_all (t : Tr) (L : List Vis) : szTo t (hasL L) t.length = usg t L := rfl

end Go.Proofs.YtmbbmmnpkdfecaaGreatDoor

/- Package quota's reachedFrom and sizeOf: which inodes lie at or below an inode, how much the chosen ones hold. Conditions: the tree's inodes are valid by themselves, all walks from the start end; its cells lie in memory as they read. -/

set_option linter.all false
namespace Go.Proofs.YtmbbmmnpkdfecaaGreatDoor
open Go.RowKit

def snocV (L : List Vis) (p : Vis) : List Vis := L ++ [p]
theorem fin_snocV (t : Tr) (xs : List ByteArray) (n : Nat) (L : List Vis) : fin_ snocV t xs n L = L ++ sub t xs n := by
  unfold fin_ snocV; rw [foldl_snoc]

/-- The three variables that the walk captures, and the tree. -/
structure REnv (W : World) (t : Tr) (a : Option Addr) (c pt R pc pf Bt : Nat) (L : List Vis) : Prop where
  row : Row W R t.length (fun j => .bool (hasL L j))
  cv : One W pc (.slice (some ⟨R, 0, none⟩) t.length t.length)
  tb : One W pt (.slice a t.length c)
  fb : One W pf (.func (.func 147) #[] #[.pointer (some ⟨pc, 0, none⟩), .pointer (some ⟨pt, 0, none⟩), .pointer (some ⟨pf, 0, none⟩)])
  nd : Nods W Bt a c t
theorem REnv.step {W W' : World} {t : Tr} {a : Option Addr} {c pt R pc pf Bt : Nat} {L : List Vis} (h : REnv W t a c pt R pc pf Bt L) (hB : Bt ≤ W.heap.size) (hb : Below W.heap.size W W') : REnv W' t a c pt R pc pf Bt L :=
  ⟨h.row.below hb h.row.lt, h.cv.below hb h.cv.lt, h.tb.below hb h.tb.lt, h.fb.below hb h.fb.lt, h.nd.below (hb.mono hB)⟩
theorem REnv.mark {W : World} {t : Tr} {a : Option Addr} {c pt R pc pf Bt : Nat} {L : List Vis} (h : REnv W t a c pt R pc pf Bt L) (d0 : Bt ≤ R) (d1 : R ≠ pt) (d2 : R ≠ pc) (d3 : R ≠ pf) {n : Nat} (hn : n < t.length) (xs : List ByteArray) :
    REnv (W.setCell ⟨R, n, none⟩ (.bool true)) t a c pt R pc pf Bt (snocV L (xs, n)) := by
  refine ⟨(h.row.put hn (.bool true)).ext fun j _ => ?_, h.cv.far (by simpa using d2.symm) _, h.tb.far (by simpa using d1.symm) _, h.fb.far (by simpa using d3.symm) _, h.nd.keep fun b o hb => World.cell?_setCell_other _ _ _ _ (fun e => by have := congrArg Addr.block e; simp at this; omega)⟩
  unfold snocV
  rw [hasL_snoc]
  by_cases e : j = n
  · subst e; simp
  · rw [if_neg e, decide_eq_false (fun h => e h.symm), Bool.or_false]

set_option maxRecDepth 100000 in
set_option maxHeartbeats 4000000 in
theorem reach1_any (t : Tr) (h1 : Ok1 t) (s0 : Nat) (hF : Fin t s0) (hl : ∀ xs m, Rch t s0 xs m → m < t.length) (a : Option Addr) (c pt R pc pf Bt : Nat) (d0 : Bt ≤ pt) (d1 : pt < R) (d2 : R < pc) (d3 : pc < pf) :
    ∀ xs n, Rch t s0 xs n → ∀ (W : World) (L : List Vis), REnv W t a c pt R pc pf Bt L →
      Calls Tryz.prog 147 #[.int .i64 (n : Int), .pointer (some ⟨pc, 0, none⟩), .pointer (some ⟨pt, 0, none⟩), .pointer (some ⟨pf, 0, none⟩)] W fun e W' => e = .returned (.tuple #[]) ∧ REnv W' t a c pt R pc pf Bt (fin_ snocV t xs n L) ∧ Kept (fun b => b = R) none W W' := by
  refine sub_ind hF _ fun xs n hr ih => ?_
  intro W L E
  have hn := hl _ _ hr
  have hBW : Bt ≤ W.heap.size := by have := E.tb.lt; omega
  have lf := E.fb.lt
  obtain ⟨b, o, ve, vd, va, vx, rfl, hb, hc, hs⟩ := E.nd.one hn
  obtain ⟨ea, ec, rfl, hec, hel, hef, hex⟩ := hs.es
  have hc2 := hc.c2
  change W.cell? ⟨b, o + n * 8 + 2, none⟩ = some (.slice ea (kids t n).length ec) at hc2
  change (kids t n).length ≤ ec at hec
  change (kids t n).length ≤ 35184372088832 at hel
  have HEX := Lib.hid (show 0 < (kids t n).length → ∃ b o, ea = some ⟨b, o, none⟩ ∧ b < Bt ∧ ∀ j, j < (kids t n).length →
      W.cell? ⟨b, o + j * 2, none⟩ = some (.string ((kids t n).getD j D0).n) ∧ W.cell? ⟨b, o + j * 2 + 1, none⟩ = some (.int .i64 ((kids t n).getD j D0).i) from hex)
  have HME := Lib.hid (mid_end snocV hF hr L)
  have HKD := Lib.hid (fun k (hk : k < (kids t n).length) => (show (kids t n).getD k D0 ∈ kids t n from by rw [deD hk]; exact List.getElem_mem hk))
  have HIH := Lib.hid ih
  have HK := Lib.hid (fun e (he : e ∈ kids t n) => h1.kid he)
  have HMS := Lib.hid (fun k (hk : k < (kids t n).length) => mid_succ snocV t xs (kids t n) (snocV L (xs, n)) hk)
  have HMZ := Lib.hid (mid_zero snocV t xs (kids t n) (snocV L (xs, n)))
  have EM := Lib.hid (E.mark (by omega) (by omega) (by omega) (by omega) hn xs)
  have KM := Lib.hid (show Kept (fun b => b = R) none W (W.setCell ⟨R, n, none⟩ (.bool true)) from (show Kept (fun b => b = R) none W W from Kept.refl _ _ _).set (show (fun b => b = R) R from rfl) _)
  clear hex hs hc hef ih hr
  have nlz : (n : Int) < (t.length : Int) := by omega
  have nz : (0 : Int) ≤ (n : Int) := Int.natCast_nonneg _
  have r0 := E.row.c n hn
  have rz := E.row.fz n
  have rl := E.row.lt
  have cv0 := E.cv.c0
  have cvl := E.cv.lt
  have tl := E.tb.lt
  have b2 := EM.out.tb.c0
  have b3 : (W.setCell ⟨R, n, none⟩ (.bool true)).cell? ⟨b, o + n * 8 + 2, none⟩ = some (.slice ea (kids t n).length ec) := (World.cell?_setCell_other _ _ _ _ (by first | omega | (simp; done) | (simp; omega))).trans hc2
  clear E
  generalize kids t n = es at *
  generalize hm : es.length = m at *
  go_enter Tryz.func147, Tryz.ntmps147
  go_wp2_with fail
  have hs9 : (W.setCell ⟨R, n, none⟩ (.bool true)).heap.size = W.heap.size := by simp
  generalize hW1 : W.setCell ⟨R, n, none⟩ (.bool true) = W1 at *
  clear hW1 r0 rz rl cv0 b2 b3
  go_loopg [6, 17] m (fun gg _ s17 wr => ∃ k : Nat, k ≤ m ∧ m - k ≤ gg ∧ s17 = .int .i64 k ∧ Aside (REnv wr t (some ⟨b, o, none⟩) c pt R pc pf Bt (mid_ snocV t xs es (snocV L (xs, n)) k)) ∧ Aside (Kept (fun b => b = R) none W wr))
  case atStart => exact ⟨0, by omega, by omega, rfl, (show REnv W1 _ _ _ _ _ _ _ _ _ from by rw [HMZ.out]; exact EM.out), KM.out⟩
  case round =>
    obtain ⟨k, hk, hg, rfl, Er, Gr⟩ := hrel
    clear EM KM
    have hws := Gr.out.size
    by_cases hlt : k < m
    · have hltz : (k : Int) < (m : Int) := by omega
      obtain ⟨be, oe, rfl, hbe, hje⟩ := HEX.out (by omega)
      have hBr : Below Bt W wr := Gr.out.below hBW (fun q hq => by omega) (by simp)
      have g0 := (hBr.cell (p := ⟨be, oe + k * 2, none⟩) hbe).trans (hje k hlt).1
      have g1 := (hBr.cell (p := ⟨be, oe + k * 2 + 1, none⟩) hbe).trans (hje k hlt).2
      have HKE := Lib.hid (HKD.out k hlt)
      have HMK := Lib.hid (HMS.out k hlt)
      have HIc := Lib.hid (HIH.out _ HKE.out)
      obtain ⟨q1, q2, q3, _, _⟩ := HK.out _ HKE.out
      clear hje hBr
      generalize es.getD k D0 = e at *
      obtain ⟨x, i⟩ := e
      simp only at g0 g1 HMK HIc q1 q2 q3
      obtain ⟨n2, rfl⟩ := Int.eq_ofNat_of_zero_le (Int.le_of_lt q2)
      simp only [Int.toNat_natCast] at HMK HIc q3
      have hBr2 : Bt ≤ wr.heap.size := Nat.le_trans hBW hws
      have E1 := Lib.hid (Er.out.step hBr2 ((Below.refl wr.heap.size wr).alloc (Nat.le_refl _) (.cells #[.string x, .int .i64 (n2 : Int)] 93)))
      have K1 := Lib.hid (show Kept (fun b => b = R) none W (wr.alloc (.cells #[.string x, .int .i64 (n2 : Int)] 93)) from Gr.out.trans (Kept.of_below ((Below.refl wr.heap.size wr).alloc (Nat.le_refl _) _)))
      have fc := E1.out.fb.c0
      have fl := Er.out.fb.lt
      go_wp2_with fail
      refine (HIc.out _ _ E1.out).mono ?_
      rintro e y ⟨rfl, E2, K2⟩
      have E3 := Lib.hid (show REnv y t (some ⟨b, o, none⟩) c pt R pc pf Bt (mid_ snocV t xs es (snocV L (xs, n)) (k + 1)) from by rw [HMK.out]; exact E2)
      have K3 := Lib.hid (K1.out.trans K2)
      clear E2 K2 E1 K1 fc
      go_wp2
      go_roundg (m - (k + 1))
      case measure => omega
      case rel => exact ⟨k + 1, by omega, by omega, by go_num, E3.out, K3.out⟩
    · obtain rfl : k = m := by omega
      have GE := Lib.hid Er.out
      go_wp2
      go_end0
      exact ⟨rfl, by rw [← HME.out]; exact GE.out, Gr.out⟩

/-- What reachedFrom returns: a new row that says of each inode whether it is reached. -/
def ReachPost (t : Tr) (n : Nat) (w : World) (e : Ending) (w' : World) : Prop :=
  ∃ R, w.heap.size ≤ R ∧ e = .returned (.slice (some ⟨R, 0, none⟩) t.length t.length) ∧ Row w' R t.length (fun j => .bool (hasL (visits t n) j)) ∧ Below w.heap.size w w'

set_option maxRecDepth 100000 in
set_option maxHeartbeats 1600000 in
theorem reached_any (a : Option Addr) (c : Nat) (t : Tr) (n : Nat) (w : World) (h1 : Ok1 t) (hF : Fin t n) (hl : ∀ xs m, Rch t n xs m → m < t.length) (h : Nods w w.heap.size a c t) :
    Calls Tryz.prog 98 #[.agg #[.slice a t.length c], .int .i64 (n : Int)] w (ReachPost t n w) := by
  have H := Lib.hid h
  have HR := Lib.hid (fun d1 d2 d3 W (E : REnv W t a c w.heap.size (w.heap.size + 1) (w.heap.size + 1 + 1) (w.heap.size + 1 + 1 + 1) w.heap.size []) => reach1_any t h1 n hF hl a c w.heap.size (w.heap.size + 1) (w.heap.size + 1 + 1) (w.heap.size + 1 + 1 + 1) w.heap.size (Nat.le_refl _) d1 d2 d3 [] n .nil W [] E)
  have hmk := make_bools t.length h1.le
  clear h h1 hF hl
  have BB := Lib.hid (show Below w.heap.size w ((((w.alloc (.cells #[.slice a t.length c] 24)).alloc (.cells (madeCells #[.bool false] t.length) 4)).alloc (.cells #[.slice (some ⟨w.heap.size + 1, 0, none⟩) t.length t.length] 139)).alloc (.cells #[.func (.func 147) #[] #[.pointer (some ⟨w.heap.size + 1 + 1, 0, none⟩), .pointer (some ⟨w.heap.size, 0, none⟩), .pointer (some ⟨w.heap.size + 1 + 1 + 1, 0, none⟩)]] 166)) from
    ((((Below.refl _ _).alloc (Nat.le_refl _) _).alloc (by first | omega | (simp; done) | (simp; omega)) _).alloc (by first | omega | (simp; done) | (simp; omega)) _).alloc (by first | omega | (simp; done) | (simp; omega)) _)
  have EE := Lib.hid (show REnv ((((w.alloc (.cells #[.slice a t.length c] 24)).alloc (.cells (madeCells #[.bool false] t.length) 4)).alloc (.cells #[.slice (some ⟨w.heap.size + 1, 0, none⟩) t.length t.length] 139)).alloc (.cells #[.func (.func 147) #[] #[.pointer (some ⟨w.heap.size + 1 + 1, 0, none⟩), .pointer (some ⟨w.heap.size, 0, none⟩), .pointer (some ⟨w.heap.size + 1 + 1 + 1, 0, none⟩)]] 166)) t a c w.heap.size (w.heap.size + 1) (w.heap.size + 1 + 1) (w.heap.size + 1 + 1 + 1) w.heap.size [] from
    ⟨((((row_new (w.alloc _) t.length (.bool false) _).alloc _).alloc _).at_ (by simp)).ext (fun _ _ => rfl), ((One.new ((w.alloc _).alloc _) _ _).alloc _).at_ (by simp), (((One.new w _ _).alloc _).alloc _).alloc _, (One.new (((w.alloc _).alloc _).alloc _) _ _).at_ (by simp), H.out.below BB.out⟩)
  unfold ReachPost
  go_enter Tryz.func98, Tryz.ntmps98
  go_wp2_with fail
  refine (HR.out (by omega) (by omega) (by omega) _ EE.out).mono ?_
  rintro e W2 ⟨rfl, I2, K2⟩
  rw [fin_snocV, List.nil_append] at I2
  have c0 := I2.cv.c0
  have B2 := Lib.hid (BB.out.trans (K2.below (by first | omega | (simp; done) | (simp; omega)) (fun k hk => by omega) (by simp)))
  have R2 := Lib.hid I2.row
  clear I2 K2 HR
  go_wp2
  go_ret
  exact ⟨w.heap.size + 1, by omega, rfl, R2.out, B2.out⟩

set_option maxRecDepth 100000 in
set_option maxHeartbeats 3200000 in
theorem sizeOf_any (a : Option Addr) (c : Nat) (t : Tr) (f : Nat → Bool) (R rc : Nat) (w : World) (h1 : Ok1 t) (h : Nods w w.heap.size a c t) (hrow : Row w R t.length (fun j => .bool (f j))) :
    Calls Tryz.prog 99 #[.agg #[.slice a t.length c], .slice (some ⟨R, 0, none⟩) t.length rc] w fun e w' => e = .returned (.int .i64 (szTo t f t.length : Nat)) ∧ Below w.heap.size w w' := by
  have H := Lib.hid h
  have H1 := Lib.hid h1
  have HR := Lib.hid hrow
  have h40 := h1.le
  have B0 := Lib.hid ((Below.refl w.heap.size w).alloc (Nat.le_refl _) (.cells #[.slice a t.length c] 24))
  have T0 := Lib.hid (One.new w (.slice a t.length c) 24)
  clear h h1 hrow
  go_enter Tryz.func99, Tryz.ntmps99
  go_wp2_with fail
  go_loopg [5, 6, 7, 11] t.length (fun gg s5 _ _ s11 wr => ∃ i : Nat, i ≤ t.length ∧ t.length - i ≤ gg ∧ s5 = .int .i64 (szTo t f i : Nat) ∧ s11 = .int .i64 i ∧ Aside (Below w.heap.size w wr))
  case atStart => exact ⟨0, by omega, by omega, by rw [szTo_zero]; rfl, rfl, B0.out⟩
  case round =>
    obtain ⟨i, hi, hg, rfl, rfl, I⟩ := hrel
    clear B0 T0
    by_cases hlt : i < t.length
    · have hltz : (i : Int) < (t.length : Int) := by omega
      have hi0 : (0 : Int) ≤ (i : Int) := Int.natCast_nonneg _
      have hm9 : t.length - (i + 1) < t.length - i := Nat.sub_lt_sub_left hlt (Nat.lt_succ_self i)
      obtain ⟨b, o, ve, vd, va, vx, rfl, hb, hc, hs⟩ := (H.out.below I.out).one hlt
      obtain ⟨da, dc, rfl, _⟩ := hs.dl
      obtain ⟨ea, ec, rfl, _⟩ := hs.es
      obtain ⟨aa, acp, rfl, _⟩ := hs.ac
      obtain ⟨xa, xc, rfl, _⟩ := hs.xs
      have h0 := hc.c0
      have h1 := hc.c1
      have h2 := hc.c2
      have h3 := hc.c3
      have h4 := hc.c4
      have h5 := hc.c5
      have h6 := hc.c6
      have h7 := hc.c7
      have hdl := (H1.out.fine i).dl
      have hol := szTo_le H1.out f i
      have HS := Lib.hid (szTo_succ t f i)
      have B1 := Lib.hid I.out
      have r0 := (I.out.cell (p := ⟨R, i, none⟩) HR.out.lt).trans (HR.out.c i hlt)
      have rl : R < wr.heap.size := Nat.lt_of_lt_of_le HR.out.lt I.out.size
      have hbs := I.out.size
      clear hc hs
      generalize (nod t i).k = gk at *
      generalize (nod t i).o = go at *
      generalize (nod t i).dl = gd at *
      generalize (nod t i).es.length = ge at *
      generalize (nod t i).ac.length = ga at *
      generalize (nod t i).xs.length = gx at *
      generalize (nod t i).q = gq at *
      generalize (nod t i).v = gv at *
      generalize szTo t f i = q at *
      have hwr : IntKind.i64.wrap ((q : Int) + (gd : Int)) = (q : Int) + (gd : Int) := IntWalk.i64_in _ (by omega)
      cases hx : f i with
      | true =>
        rw [hx] at r0
        have HS2 := Lib.hid (show szTo t f (i + 1) = q + gd from by have h9 := HS.out; rw [hx] at h9; simpa using h9)
        clear hx HS
        go_wp2
        go_roundg (t.length - (i + 1))
        case measure => exact Nat.lt_of_lt_of_le hm9 hg
        case rel => exact ⟨i + 1, by omega, by omega, by rw [HS2.out]; go_num, by go_num, B1.out.alloc hbs _⟩
      | false =>
        rw [hx] at r0
        have HS2 := Lib.hid (show szTo t f (i + 1) = q from by have h9 := HS.out; rw [hx] at h9; simpa using h9)
        clear hx HS
        go_wp2
        go_roundg (t.length - (i + 1))
        case measure => exact Nat.lt_of_lt_of_le hm9 hg
        case rel => exact ⟨i + 1, by omega, by omega, by rw [HS2.out], by go_num, B1.out.alloc hbs _⟩
    · obtain rfl : i = t.length := by omega
      go_wp2
      go_ret
      exact ⟨rfl, I.out⟩

end Go.Proofs.YtmbbmmnpkdfecaaGreatDoor

/- quota.Usage at every tree: the fault of the tree, or the usage of each inode. Conditions: the tree's cells lie in memory as they read. -/

set_option linter.all false
namespace Go.Proofs.YtmbbmmnpkdfecaaGreatDoor
open Go.RowKit

theorem free_rch {t : Tr} (h1 : Ok1 t) {n : Nat} (hk : (nod t n).k = 0) {xs : List ByteArray} {m : Nat} (hr : Rch t n xs m) : xs = [] ∧ m = n := by
  induction hr with
  | nil => exact ⟨rfl, rfl⟩
  | snoc hx he ih =>
    obtain ⟨_, rfl⟩ := ih
    have := (h1.kid he).2.2.2.2
    omega
theorem reach_ok {t : Tr} (hd : Head t) (p3 : Pass t 3) {n : Nat} (hn : n < t.length) : Fin t n ∧ ∀ xs m, Rch t n xs m → m < t.length := by
  have h1 := Pass.ok1 hd (p3.mono (by omega))
  by_cases hk : (nod t n).k = 0
  · exact ⟨fun xs m hr => by rw [(free_rch h1 hk hr).1]; simp, fun xs m hr => by rw [(free_rch h1 hk hr).2]; exact hn⟩
  · have fr := (Pass.from_ hd p3 hn hk).1
    exact ⟨fr.fin, fun xs m hr => (h1.rch hr fr.lt fr.used).1⟩
/-- The usage of an inode. -/
def usgN (t : Tr) (n : Nat) : Nat := usg t (visits t n)

/-- A row of which one cell is not known. -/
def RowBut (y : World) (R n k : Nat) (g : Nat → Value) : Prop := ∃ v, Row y R n (fun j => if j = k then v else g j)
theorem RowBut.below {y z : World} {R n k B : Nat} {g : Nat → Value} (h : RowBut y R n k g) (hb : Below B y z) (hR : R < B) : RowBut z R n k g := by
  obtain ⟨v, hr⟩ := h; exact ⟨v, hr.below hb hR⟩
theorem RowBut.lt {y : World} {R n k : Nat} {g : Nat → Value} (h : RowBut y R n k g) : R < y.heap.size := by obtain ⟨v, hr⟩ := h; exact hr.lt
theorem RowBut.put {y : World} {R n k : Nat} {g : Nat → Value} (h : RowBut y R n k g) (hk : k < n) (u : Value) : Row (y.setCell ⟨R, k, none⟩ u) R n (fun j => if j = k then u else g j) := by
  obtain ⟨v, hr⟩ := h
  refine (hr.put hk u).ext fun j _ => ?_
  by_cases e : j = k
  · rw [if_pos e, if_pos e]
  · rw [if_neg e, if_neg e, if_neg e]
theorem Row.but {y : World} {R n : Nat} {g : Nat → Value} (h : Row y R n g) (k : Nat) : RowBut y R n k g :=
  ⟨g k, h.ext fun j _ => by by_cases e : j = k; rw [if_pos e, e]; rw [if_neg e]⟩

/-- The values of the row when the first k are filled in. -/
def upU (t : Tr) (k j : Nat) : Value := .int .i64 (if j < k then (usgN t j : Nat) else (0 : Nat) : Nat)
theorem upU_succ (t : Tr) (k j : Nat) : (if j = k then Value.int .i64 (usgN t k : Nat) else upU t k j) = upU t (k + 1) j := by
  unfold upU
  by_cases e : j = k
  · subst e; rw [if_pos rfl, if_pos (by omega)]
  · rw [if_neg e]
    by_cases h : j < k
    · rw [if_pos h, if_pos (by omega)]
    · rw [if_neg h, if_neg (by omega)]

/-- What holds while a cell of the row is worked out. -/
structure USt (w y : World) (t : Tr) (a : Option Addr) (c R i : Nat) : Prop where
  b : Below w.heap.size w y
  row : RowBut y R t.length i (upU t i)
  fb : FBox y (w.heap.size + 1) 0 0
  tb : One y w.heap.size (.slice a t.length c)
theorem USt.step {w y z : World} {t : Tr} {a : Option Addr} {c R i : Nat} (h : USt w y t a c R i) (hb : Below y.heap.size y z) : USt w z t a c R i :=
  ⟨h.b.trans (hb.mono h.b.size), h.row.below hb h.row.lt, h.fb.below hb h.fb.lt, h.tb.below hb h.tb.lt⟩
theorem USt.store {w y : World} {t : Tr} {a : Option Addr} {c R i : Nat} (h : USt w y t a c R i) (hi : i < t.length) (hR : w.heap.size + 1 < R) (u : Value) : USt w (y.setCell ⟨R, i, none⟩ u) t a c R i :=
  ⟨h.b.setCell (by simp; omega) _, ⟨u, h.row.put hi u⟩, h.fb.far (by simp; omega) _, h.tb.far (by simp; omega) _⟩

/-- What quota.Usage returns: the fault, or a new row of usages. -/
def UsePost (t : Tr) (w : World) (e : Ending) (w' : World) : Prop :=
  ((valT t).1 ≠ 0 ∧ e = .returned (.tuple #[.slice none 0 0, faultV (valT t).1 (valT t).2]) ∧ Below w.heap.size w w') ∨
    ((valT t).1 = 0 ∧ ∃ R, w.heap.size ≤ R ∧ e = .returned (.tuple #[.slice (some ⟨R, 0, none⟩) t.length t.length, faultV 0 0]) ∧ Row w' R t.length (fun j => .int .i64 (usgN t j : Nat)) ∧ Below w.heap.size w w')

end Go.Proofs.YtmbbmmnpkdfecaaGreatDoor

/- Rows of ints that a call owns: an append of one int; what such a row reads as. Conditions: as each theorem states. -/

set_option linter.all false
namespace Go.Proofs.YtmbbmmnpkdfecaaGreatDoor
open Go.RowKit

def intL (xs : List Int) : List Value := xs.map (Value.int .i64)
theorem intL_append (xs ys : List Int) : intL (xs ++ ys) = intL xs ++ intL ys := by unfold intL; rw [List.map_append]
theorem intL_len (xs : List Int) : (intL xs).length = xs.length := by unfold intL; simp
set_option maxRecDepth 100000 in
/-- append(row, x): row a row of the call's own, x one int in a block of its own; where the new row lies. -/
theorem wpList_append_int {w : World} {ops : Array Oper} {rest : List Oper} {o : Oper} {a : Act} {Q : Exit → Act → World → Prop} (hgd : o.guard = none) (s x : Operand)
    (ho : o.op = .call { callee := .builtin .append, args := #[s, x], argTypes := #[67, 67] })
    (base : Nat) (v : Value) (n : Nat) (L : List Int) (hs : a.eval s = v) (hown : w.ownsRow base 3 1 v n (intL L))
    (q : Nat) (p : Int) (hx : a.eval x = .slice (some ⟨q, 0, none⟩) 1 1)
    (h0 : w.cell? ⟨q, 0, none⟩ = some (.int .i64 p))
    (hn : n ≤ 100000) (hbase : base ≤ w.heap.size)
    (h : ∀ v' w', w'.ownsRow base 3 1 v' (n + 1) (intL (L ++ [p])) → w.grownBy w' v.ownBlock → (v'.ownBlock = v.ownBlock ∨ v'.ownBlock = some w.heap.size) → wpList Tryz.prog ops Q rest (a.put o.dst v') w') : wpList Tryz.prog ops Q (o :: rest) a w := by
  obtain ⟨i0, hi, hz0, hz1, hz2⟩ := info_parts int_info
  refine wpList_plain hgd fun K hK2 => ?_
  obtain ⟨v', w', hrun, g1, g2, _, g3⟩ := run_append_own_at (P := Tryz.prog) w base 67 o.type 3 i0 _ 1 8 Tryz.underlying67 hi hz0 hz1 hz2 rfl (by omega) v n (intL L) hown ⟨q, 0, none⟩ 1 1 (intL [p]) rfl (by
      intro j u hu
      have hjl : j < 1 := (List.getElem?_eq_some_iff.1 hu).1
      obtain rfl : j = 0 := by omega
      have hadd : (⟨q, 0, none⟩ : Addr).add 0 = ⟨q, 0, none⟩ := by unfold Addr.add; split <;> simp_all
      rw [hadd]
      simp [intL] at hu; subst hu; exact h0) (by intro u hu; simp [intL] at hu; subst hu; rfl) (by unfold maxLen; omega) (by omega) hbase
  unfold Oper.wp
  simp [execOp, ho, resolve, invoke, builtin, hs, hx, hrun, Result.andThen]
  exact hK2 _ _ (h v' w' (by rw [intL_append]; exact g1) g2 g3)
/-- A row of ints: nil, or a block that holds them. -/
theorem int_row {w : World} {base n : Nat} {v : Value} {L : List Int} (h : w.ownsRow base 3 1 v n (intL L)) : n = L.length ∧ ((v = .slice none 0 0 ∧ L = []) ∨ ∃ g cap, v = .slice (some ⟨g, 0, none⟩) n cap ∧ base ≤ g ∧ g < w.heap.size ∧ ∀ j, j < n → w.cell? ⟨g, j, none⟩ = some (.int .i64 (L.getD j 0))) := by
  have hn : n = L.length := by have := h.1; rw [intL_len] at this; omega
  refine ⟨hn, ?_⟩
  rcases h.2 with ⟨hv, h0⟩ | ⟨g, cap, cur, hv, hb, hg, hnc, _, _, _⟩
  · exact .inl ⟨hv, List.eq_nil_of_length_eq_zero (by omega)⟩
  · refine .inr ⟨g, cap, hv, hb, (Array.getElem?_eq_some_iff.1 hg).1, fun j hj => ?_⟩
    rw [hv] at h
    rw [h.cellAt j (by omega)]
    unfold intL
    rw [List.getElem?_map, List.getElem?_eq_getElem (by omega), List.getD_eq_getElem?_getD, List.getElem?_eq_getElem (by omega)]
    rfl

theorem own_formQ {w : World} {base size n : Nat} {e : TypeId} {v : Value} {xs : List Value} (h : w.ownsRow base e size v n xs) : ∃ a c, v = .slice a n c := by
  rcases h.2 with ⟨rfl, rfl⟩ | ⟨g, cap, cur, rfl, _⟩
  · exact ⟨_, _, rfl⟩
  · exact ⟨_, _, rfl⟩
/-- A row of the call's own as a row of ints in a block. -/
theorem int_rowR {w : World} {base n : Nat} {v : Value} {L : List Int} (h : w.ownsRow base 3 1 v n (intL L)) (hn : 0 < n) : ∃ g cap, v = .slice (some ⟨g, 0, none⟩) n cap ∧ base ≤ g ∧ Row w g n (fun j => .int .i64 (L.getD j 0)) := by
  obtain ⟨hl, hh⟩ := int_row h
  rcases hh with ⟨_, h0⟩ | ⟨g, cap, hv, hb, hlt, hc⟩
  · subst h0; simp at hl; omega
  · refine ⟨g, cap, hv, hb, hlt, hc, fun j => ?_⟩
    rcases h.2 with ⟨h1, _⟩ | ⟨g', cap', cur, h1, _, hg, _⟩
    · rw [hv] at h1; cases h1
    · rw [hv] at h1; cases h1
      unfold World.frozen?
      simp [hg]

end Go.Proofs.YtmbbmmnpkdfecaaGreatDoor

/- Rows of ints that a call owns (IntRow), beside the rows of a check. No condition. -/

set_option linter.all false
namespace Go.Proofs.YtmbbmmnpkdfecaaGreatDoor

end Go.Proofs.YtmbbmmnpkdfecaaGreatDoor

/- Package quota's visitQuotas at any function that it visits with: every directory above a file that has a quota is visited, in increasing order, with the room that it has. Conditions: the tree is valid; the visit leaves all but its own blocks alone; the tree's cells lie in memory as they read. -/

set_option linter.all false
namespace Go.Proofs.YtmbbmmnpkdfecaaGreatDoor
open Go.RowKit

/-- Directory i has a quota and lies above the file. -/
def qOn (t : Tr) (file i : Nat) : Bool := decide ((nod t i).q ≠ 0) && hasL (visits t i) file
/-- The room that it has. -/
def room (t : Tr) (i : Nat) : Int := (nod t i).q - (usgN t i : Nat)
/-- The visits of the first k inodes. -/
def qL (t : Tr) (file : Nat) : Nat → List (Nat × Int)
  | 0 => []
  | k + 1 => if qOn t file k = true then qL t file k ++ [(k, room t k)] else qL t file k
theorem qL_mem {t : Tr} {file : Nat} : ∀ {k : Nat} {p : Nat × Int}, p ∈ qL t file k ↔ p.1 < k ∧ qOn t file p.1 = true ∧ p.2 = room t p.1
  | 0, p => by simp [qL]
  | k + 1, p => by
    unfold qL
    by_cases h : qOn t file k = true
    · rw [if_pos h, List.mem_append, qL_mem, List.mem_singleton]
      constructor
      · rintro (⟨h1, h2, h3⟩ | rfl)
        · exact ⟨by omega, h2, h3⟩
        · exact ⟨by simp, h, rfl⟩
      · rintro ⟨h1, h2, h3⟩
        by_cases e : p.1 = k
        · exact .inr (by obtain ⟨p1, p2⟩ := p; simp only at e h3; subst e; rw [h3])
        · exact .inl ⟨by omega, h2, h3⟩
    · rw [if_neg h, qL_mem]
      constructor
      · rintro ⟨h1, h2, h3⟩; exact ⟨by omega, h2, h3⟩
      · rintro ⟨h1, h2, h3⟩
        have : p.1 ≠ k := fun e => h (by rw [← e]; exact h2)
        exact ⟨by omega, h2, h3⟩
theorem qL_len (t : Tr) (file : Nat) : ∀ k, (qL t file k).length ≤ k
  | 0 => by simp [qL]
  | k + 1 => by
    have := qL_len t file k
    unfold qL
    split <;> simp <;> omega

/-- What is asked of the visit; S: the blocks that are the visitor's. -/
structure VisQ {σ : Type} (g : FuncId) (caps : Array Value) (H0 : Nat) (Inv : World → σ → (Nat → Prop) → Prop) (step : σ → Nat × Int → σ) (P : σ → Prop) : Prop where
  eg : ∀ args w, (callFunc g args).run Tryz.prog w = .ok (.enter g args) w
  inn : ∀ W s S, Inv W s S → ∀ b, S b → b < W.heap.size
  keep : ∀ W W' s S, Inv W s S → Below H0 W W' → (∀ b, S b → W'.heap[b]? = W.heap[b]?) → Inv W' s S
  call : ∀ W s S (n : Nat) (r : Int), H0 ≤ W.heap.size → Inv W s S → P s → n < 40 → -10000 ≤ r → r ≤ 200000 → Calls Tryz.prog g (#[.int .i64 (n : Int), .int .i64 r] ++ caps) W fun e W' => e = .returned (.tuple #[]) ∧ ∃ S', Inv W' (step s (n, r)) S' ∧ Kept S none W W' ∧ ∀ b, S' b → S b ∨ W.heap.size ≤ b

/-- What holds while the inodes are looked at. -/
structure VQ {σ : Type} (Inv : World → σ → (Nat → Prop) → Prop) (w wr : World) (Bt : Nat) (a : Option Addr) (n c : Nat) (S0 S : Nat → Prop) (s : σ) : Prop where
  inv : Inv wr s S
  low : ∀ b, S b → Bt ≤ b
  off : ¬ S w.heap.size
  tb : One wr w.heap.size (.slice a n c)
  kept : Kept S0 none w wr
  new : ∀ b, S b → S0 b ∨ w.heap.size ≤ b
theorem VQ.step {σ : Type} {g : FuncId} {caps : Array Value} {H0 : Nat} {Inv : World → σ → (Nat → Prop) → Prop} {stp : σ → Nat × Int → σ} {P : σ → Prop} (V : VisQ g caps H0 Inv stp P) {w wr z : World} {Bt : Nat} {a : Option Addr} {n c : Nat} {S0 S : Nat → Prop} {s : σ}
    (h : VQ Inv w wr Bt a n c S0 S s) (hb : Below wr.heap.size wr z) (hH : H0 ≤ wr.heap.size) : VQ Inv w z Bt a n c S0 S s :=
  ⟨V.keep wr z s S h.inv (hb.mono hH) (fun b hS => hb.block b (V.inn wr s S h.inv b hS)), h.low, h.off, h.tb.below hb h.tb.lt, h.kept.trans (Kept.of_below hb), h.new⟩

set_option maxRecDepth 100000 in
set_option maxHeartbeats 3200000 in
theorem visitQ_any {σ : Type} {g : FuncId} {caps : Array Value} {Inv : World → σ → (Nat → Prop) → Prop} {stp : σ → Nat × Int → σ} {P : σ → Prop} (a : Option Addr) (c : Nat) (t : Tr) (file Bt : Nat) (w : World) (V : VisQ g caps w.heap.size Inv stp P) (hd : Head t) (p3 : Pass t 3) (hf : file < t.length)
    (h : Nods w Bt a c t) (hBt : Bt ≤ w.heap.size) (s0 : σ) (S0 : Nat → Prop) (hI : Inv w s0 S0) (hS0 : ∀ b, S0 b → Bt ≤ b) (hP : ∀ k, k ≤ t.length → P ((qL t file k).foldl stp s0)) :
    Calls Tryz.prog 54 #[.agg #[.slice a t.length c], .int .i64 (file : Int), .func (.func g) #[] caps] w fun e w' => e = .returned (.tuple #[]) ∧ ∃ S', Inv w' ((qL t file t.length).foldl stp s0) S' ∧ Kept S0 none w w' ∧ ∀ b, S' b → S0 b ∨ w.heap.size ≤ b := by
  have H := Lib.hid h
  have H1 := Lib.hid (Pass.ok1 hd (p3.mono (by omega)))
  have h40 := H1.out.le
  have HRC := Lib.hid (fun n (hn : n < t.length) W (hb : Nods W W.heap.size a c t) => reached_any a c t n W H1.out (reach_ok hd p3 hn).1 (reach_ok hd p3 hn).2 hb)
  have HSZ := Lib.hid (fun n R W (hb : Nods W W.heap.size a c t) (hr : Row W R t.length (fun j => .bool (hasL (visits t n) j))) => (show Calls Tryz.prog 99 #[.agg #[.slice a t.length c], .slice (some ⟨R, 0, none⟩) t.length t.length] W fun e w' => e = .returned (.int .i64 (usgN t n : Nat)) ∧ Below W.heap.size W w' from sizeOf_any a c t (hasL (visits t n)) R t.length W H1.out hb hr))
  unfold ReachPost at HRC
  have eg := V.eg
  have VV := Lib.hid V
  have HP := Lib.hid hP
  have NDS := Lib.hid (fun W (k : Kept S0 none w W) => (show Nods W W.heap.size a c t from (H.out.below (k.below hBt hS0 (by simp))).more (Nat.le_trans hBt k.size)))
  have V0 := Lib.hid (show VQ Inv w (w.alloc (.cells #[.slice a t.length c] 24)) Bt a t.length c S0 S0 s0 from
    ⟨V.keep _ _ _ _ hI ((Below.refl w.heap.size w).alloc (Nat.le_refl _) _) (fun b hb => heap_alloc_old w _ (V.inn _ _ _ hI b hb)), hS0, fun hS => by have := V.inn _ _ _ hI _ hS; omega, One.new w _ _, Kept.of_below ((Below.refl w.heap.size w).alloc (Nat.le_refl _) _), fun b hb => .inl hb⟩)
  clear h hI V hS0 hP hd p3
  go_enter Tryz.func54, Tryz.ntmps54
  go_wp2_with fail
  go_loopg [6, 7, 8, 12] t.length (fun gg _ _ _ s12 wr => ∃ i : Nat, i ≤ t.length ∧ t.length - i ≤ gg ∧ s12 = .int .i64 i ∧ Aside (∃ S, VQ Inv w wr Bt a t.length c S0 S ((qL t file i).foldl stp s0)))
  case atStart => exact ⟨0, by omega, by omega, rfl, ⟨S0, V0.out⟩⟩
  case round =>
    obtain ⟨i, hi, hg, rfl, Q⟩ := hrel
    obtain ⟨S, X⟩ := Q.out
    have XX := Lib.hid X
    clear V0 Q X
    have hws := XX.out.kept.size
    by_cases hlt : i < t.length
    · have hltz : (i : Int) < (t.length : Int) := by omega
      have hi0 : (0 : Int) ≤ (i : Int) := Int.natCast_nonneg _
      have hfz : (file : Int) < (t.length : Int) := by omega
      have hf0 : (0 : Int) ≤ (file : Int) := Int.natCast_nonneg _
      have hm9 : t.length - (i + 1) < t.length - i := Nat.sub_lt_sub_left hlt (Nat.lt_succ_self i)
      obtain ⟨b, o, ve, vd, va, vx, rfl, hb, hc, hs⟩ := (NDS.out wr XX.out.kept).one hlt
      obtain ⟨ea, ec, rfl, _⟩ := hs.es
      obtain ⟨da, dc, rfl, _⟩ := hs.dl
      obtain ⟨aa, acp, rfl, _⟩ := hs.ac
      obtain ⟨xa, xc, rfl, _⟩ := hs.xs
      have h0 := hc.c0
      have h1 := hc.c1
      have h2 := hc.c2
      have h3 := hc.c3
      have h4 := hc.c4
      have h5 := hc.c5
      have h6 := hc.c6
      have h7 := hc.c7
      have t0 := XX.out.tb.c0
      have tl := XX.out.tb.lt
      have HQL := Lib.hid (show qL t file (i + 1) = if qOn t file i = true then qL t file i ++ [(i, room t i)] else qL t file i from rfl)
      have HQO := Lib.hid (show qOn t file i = (decide ((nod t i).q ≠ 0) && hasL (visits t i) file) from rfl)
      have HRO := Lib.hid (show room t i = (nod t i).q - (usgN t i : Nat) from rfl)
      have hq0 := (H1.out.fine i).q0
      have hq1 := (H1.out.fine i).q1
      have hul : usgN t i ≤ 8000 := usg_le H1.out (visits t i)
      clear hc hs
      generalize (nod t i).k = gk at *
      generalize (nod t i).o = go at *
      generalize (nod t i).dl = gd at *
      generalize (nod t i).es.length = ge at *
      generalize (nod t i).ac.length = ga at *
      generalize (nod t i).xs.length = gx at *
      generalize (nod t i).q = gq at *
      generalize (nod t i).v = gv at *
      have BA := Lib.hid ((Below.refl wr.heap.size wr).alloc (Nat.le_refl _) (.cells #[.int .i64 gk, .int .i64 go, .slice ea ge ec, .slice da gd dc, .slice aa ga acp, .slice xa gx xc, .int .i64 gq, .int .i64 gv] 63))
      by_cases hq : gq = 0
      · subst hq
        have HN := Lib.hid (show qL t file (i + 1) = qL t file i from by rw [HQL.out, HQO.out]; simp)
        have XE := Lib.hid (XX.out.step VV.out BA.out hws)
        clear HQL HQO HRO
        go_wp2_with fail
        go_roundg (t.length - (i + 1))
        case measure => exact Nat.lt_of_lt_of_le hm9 hg
        case rel => exact ⟨i + 1, by omega, by omega, by go_num, (show ∃ S, _ from ⟨S, by rw [HN.out]; exact XE.out⟩)⟩
      · have hqb : (gq == 0) = false := by simpa using hq
        have X1 := Lib.hid (XX.out.step VV.out BA.out hws)
        have u0 := X1.out.tb.c0
        go_wp2_with fail
        refine (HRC.out i hlt _ (NDS.out _ X1.out.kept)).mono ?_
        rintro e y1 ⟨R, hR, rfl, hrow, b1⟩
        have HROW := Lib.hid hrow
        have X2 := Lib.hid (X1.out.step VV.out b1 (by simp; omega))
        have r0 := hrow.c file hf
        have rl := hrow.lt
        have k6 : y1.cell? ⟨wr.heap.size, 6, none⟩ = some (.int .i64 gq) := (b1.cell (p := ⟨wr.heap.size, 6, none⟩) (by simp)).trans (by simp)
        have k6l : wr.heap.size < y1.heap.size := Nat.lt_of_lt_of_le (by simp) b1.size
        have tk := X2.out.tb.c0
        have tkl := X2.out.tb.lt
        have hws2 := X2.out.kept.size
        have hni : ¬ S wr.heap.size := fun hS => by have := VV.out.inn _ _ _ XX.out.inv _ hS; omega
        clear b1 hrow X1 BA u0 t0 tl
        cases hx : hasL (visits t i) file with
        | false =>
          rw [hx] at r0
          have HN := Lib.hid (show qL t file (i + 1) = qL t file i from by rw [HQL.out, HQO.out, hx]; simp)
          clear HQL HQO HRO hx
          go_wp2_with fail
          go_roundg (t.length - (i + 1))
          case measure => exact Nat.lt_of_lt_of_le hm9 hg
          case rel => exact ⟨i + 1, by omega, by omega, by go_num, (show ∃ S, _ from ⟨S, by rw [HN.out]; exact X2.out⟩)⟩
        | true =>
          rw [hx] at r0
          have HN := Lib.hid (show qL t file (i + 1) = qL t file i ++ [(i, gq - (usgN t i : Nat))] from by rw [HQL.out, HQO.out, hx, if_pos (by simpa using hq), HRO.out])
          clear HQL HQO HRO hx
          have HZ := Lib.hid (HSZ.out i)
          generalize usgN t i = u at *
          have hwr : IntKind.i64.wrap (gq - (u : Int)) = gq - (u : Int) := IntWalk.i64_in _ (by omega)
          go_wp2_with fail
          go_region_held3 (fun y => y.cell? ⟨wr.heap.size, 6, none⟩ = some (.int .i64 gq) ∧ y.cell? ⟨w.heap.size, 0, none⟩ = some (.slice (some ⟨b, o, none⟩) t.length c))
            ((first | exact ⟨k6, tk⟩ | exact ⟨k6z, tkz⟩ | exact ⟨k6v, tkv⟩ | (trace_state; fail)))
            ((first
              | (go_at_call 99; refine (HZ.out R _ (NDS.out _ (X2.out.step VV.out (Below.refl _ _).drew hws2).kept) (HROW.out.below (Below.refl _ _).drew rl)).mono ?_; rintro e z ⟨rfl, hb8⟩; have hB8 := (Below.refl y1.heap.size y1).drew.trans hb8; have XZ := X2.out.step VV.out hB8 hws2; have tkz := XZ.tb.c0; have k6z := (hB8.cell (p := ⟨wr.heap.size, 6, none⟩) k6l).trans k6)
              | (go_at_fn g; refine (VV.out.call z _ S i (gq - (u : Int)) (Nat.le_trans hws2 hB8.size) XZ.inv (HP.out i hi) (by omega) (by omega) (by omega)).mono ?_; rintro e v ⟨rfl, S', iv, kv, nv⟩; have k6v : v.cell? ⟨wr.heap.size, 6, none⟩ = some (.int .i64 gq) := (World.cell?_of_block (a := ⟨wr.heap.size, 6, none⟩) (kv.block _ (Nat.lt_of_lt_of_le k6l hB8.size) hni (by simp))).trans k6z; have tbv := XZ.tb.kept kv XZ.off (by simp); have tkv := tbv.c0)
              | (trace_state; fail)))
          all_goals
            have XF : VQ Inv w v Bt (some ⟨b, o, none⟩) t.length c S0 S' ((qL t file (i + 1)).foldl stp s0) := by
              refine ⟨by rw [HN.out, List.foldl_append]; exact iv, fun x hx => ?_, fun hx => ?_, tbv, ?_, fun x hx => ?_⟩
              · rcases nv x hx with h9 | h9
                · exact XZ.low x h9
                · have := hB8.size; omega
              · rcases nv _ hx with h9 | h9
                · exact XZ.off h9
                · have := hB8.size; omega
              · exact ⟨kv.os.trans XZ.kept.os, kv.tape.trans XZ.kept.tape, kv.output.trans XZ.kept.output, Nat.le_trans XZ.kept.size kv.size, fun x hx hS hr => (kv.block x (Nat.lt_of_lt_of_le hx XZ.kept.size) (fun h9 => by
                  rcases XZ.new x h9 with h8 | h8
                  · exact hS h8
                  · omega) (by simp)).trans (XZ.kept.block x hx hS hr)⟩
              · rcases nv x hx with h9 | h9
                · exact XZ.new x h9
                · have := hB8.size; exact .inr (by omega)
            have XFF := Lib.hid XF
            clear XF iv kv nv tbv
            go_wp2
            go_roundg (t.length - (i + 1))
            case measure => exact Nat.lt_of_lt_of_le hm9 hg
            case rel => exact ⟨i + 1, by omega, by omega, by go_num, (show ∃ S, _ from ⟨S', XFF.out⟩)⟩
    · obtain rfl : i = t.length := by omega
      have t0 := XX.out.tb.c0
      have tl := XX.out.tb.lt
      go_wp2
      go_end0
      exact ⟨rfl, S, XX.out.inv, XX.out.kept, XX.out.new⟩

end Go.Proofs.YtmbbmmnpkdfecaaGreatDoor

/- Package quota's checkFile: the first error of a tree, of a file's number in it and of a size. Conditions: the tree's cells lie in memory as they read; the numbers are an int's. -/

set_option linter.all false
namespace Go.Proofs.YtmbbmmnpkdfecaaGreatDoor
open Go.RowKit

/-- The fault of a tree, a file's number and a size. -/
def fileF (t : Tr) (n size : Int) : Int × Int :=
  if (valT t).1 ≠ 0 then valT t else if n < 0 ∨ (t.length : Int) ≤ n ∨ size < 0 ∨ 200 < size then (3, -1) else if (nod t n.toNat).k ≠ 2 then (8, -1) else (0, 0)
theorem fileF_zero {t : Tr} {n size : Int} (h : (fileF t n size).1 = 0) : (valT t).1 = 0 ∧ (∃ m : Nat, n = (m : Int) ∧ m < t.length ∧ (nod t m).k = 2) ∧ 0 ≤ size ∧ size ≤ 200 ∧ fileF t n size = (0, 0) := by
  by_cases h0 : (valT t).1 = 0
  · have e : fileF t n size = if n < 0 ∨ (t.length : Int) ≤ n ∨ size < 0 ∨ 200 < size then (3, -1) else if (nod t n.toNat).k ≠ 2 then (8, -1) else (0, 0) := by
      unfold fileF; rw [if_neg (by simpa using h0)]
    rw [e] at h ⊢
    by_cases h1 : n < 0 ∨ (t.length : Int) ≤ n ∨ size < 0 ∨ 200 < size
    · rw [if_pos h1] at h; exact absurd h (by decide)
    · rw [if_neg h1] at h ⊢
      by_cases h2 : (nod t n.toNat).k ≠ 2
      · rw [if_pos h2] at h; exact absurd h (by decide)
      · rw [if_neg h2]
        obtain ⟨m, rfl⟩ := Int.eq_ofNat_of_zero_le (show 0 ≤ n by omega)
        refine ⟨h0, ⟨m, rfl, by omega, by simpa using h2⟩, by omega, by omega, rfl⟩
  · have e : fileF t n size = valT t := by unfold fileF; rw [if_pos h0]
    rw [e] at h; exact absurd h h0

set_option maxRecDepth 100000 in
set_option maxHeartbeats 3200000 in
theorem checkFile_any (a : Option Addr) (c : Nat) (t : Tr) (n size : Int) (w : World) (h : Nods w w.heap.size a c t) :
    Calls Tryz.prog 53 #[.agg #[.slice a t.length c], .int .i64 n, .int .i64 size] w fun e w' => e = .returned (faultV (fileF t n size).1 (fileF t n size).2) ∧ Below w.heap.size w w' := by
  have C1 := Lib.hid (fun W (hb : Below w.heap.size w W) => validT_any a c t W (h.up hb))
  have T0 := Lib.hid (show One ((w.alloc (.cells #[.slice a t.length c] 24)).alloc (.cells #[.int .i64 0, .int .i64 0] 37)) w.heap.size (.slice a t.length c) from (One.new w _ _).alloc _)
  have F0 := Lib.hid (show FBox ((w.alloc (.cells #[.slice a t.length c] 24)).alloc (.cells #[.int .i64 0, .int .i64 0] 37)) (w.heap.size + 1) 0 0 from (FBox.new (w.alloc _) 0 0 _).at_ (by simp))
  have B0 := Lib.hid (show Below w.heap.size w ((w.alloc (.cells #[.slice a t.length c] 24)).alloc (.cells #[.int .i64 0, .int .i64 0] 37)) from ((Below.refl _ _).alloc (Nat.le_refl _) _).alloc (by first | omega | (simp; done) | (simp; omega)) _)
  unfold faultV at C1
  by_cases hq : (valT t).1 = 0
  · have hz := valT_zero hq
    have e : fileF t n size = if n < 0 ∨ (t.length : Int) ≤ n ∨ size < 0 ∨ 200 < size then (3, -1) else if (nod t n.toNat).k ≠ 2 then (8, -1) else (0, 0) := by
      unfold fileF; rw [if_neg (by simpa using hq)]
    rw [hz] at C1
    by_cases h1 : n < 0 ∨ (t.length : Int) ≤ n ∨ size < 0 ∨ 200 < size
    · rw [if_pos h1] at e
      have E := Lib.hid e
      clear e hz hq h
      have key : (decide (n < 0) = true) ∨ (decide (n < 0) = false ∧ decide ((t.length : Int) ≤ n) = true) ∨ (decide (n < 0) = false ∧ decide ((t.length : Int) ≤ n) = false ∧ decide (size < 0) = true) ∨ (decide (n < 0) = false ∧ decide ((t.length : Int) ≤ n) = false ∧ decide (size < 0) = false ∧ decide (200 < size) = true) := by
        simp only [decide_eq_true_eq, decide_eq_false_iff_not]
        omega
      clear h1
      rcases key with k1 | ⟨k1, k2⟩ | ⟨k1, k2, k3⟩ | ⟨k1, k2, k3, k4⟩
      all_goals
        go_enter Tryz.func53, Tryz.ntmps53
        go_wp2_with fail
        refine (C1.out _ B0.out).mono ?_
        rintro e W1 ⟨rfl, b1⟩
        have F1 := Lib.hid (F0.out.below b1 F0.out.lt)
        have B1 := Lib.hid (B0.out.trans (b1.mono B0.out.size))
        have tc := (T0.out.below b1 T0.out.lt).c0
        have tl := (T0.out.below b1 T0.out.lt).lt
        obtain ⟨l9, a0, a1, f0, f1⟩ := F1.out
        have hs1 := B1.out.size
        clear b1
        go_wp2
        exact bodyPost_ret (v := faultV 3 (-1)) (by simp [results, Tryz.results53, faultV, go_sem, a0, a1, l9]) rfl ⟨by rw [E.out], by repeat (first | exact B1.out | refine Below.setCell ?_ (by first | omega | (simp; done) | (simp; omega)) _ | refine Below.alloc ?_ (by first | omega | (simp; done) | (simp; omega)) _ | refine Below.drew ?_)⟩
    · rw [if_neg h1] at e
      obtain ⟨m, rfl⟩ := Int.eq_ofNat_of_zero_le (show 0 ≤ n by omega)
      have hm : m < t.length := by omega
      have k1 : decide ((m : Int) < 0) = false := decide_eq_false (by omega)
      have k2 : decide ((t.length : Int) ≤ (m : Int)) = false := decide_eq_false (by omega)
      have k3 : decide (size < 0) = false := decide_eq_false (by omega)
      have k4 : decide (200 < size) = false := decide_eq_false (by omega)
      have mlz : (m : Int) < (t.length : Int) := by omega
      have mz : (0 : Int) ≤ (m : Int) := Int.natCast_nonneg _
      rw [Int.toNat_natCast] at e
      obtain ⟨b, o, ve, vd, va, vx, rfl, hb, hc, hs⟩ := h.one hm
      have c0 := hc.c0
      clear hc hs h hz hq h1
      generalize (nod t m).k = gk at *
      by_cases h2 : gk = 2
      · subst h2
        rw [if_neg (by simp)] at e
        have E := Lib.hid e
        clear e
        go_enter Tryz.func53, Tryz.ntmps53
        go_wp2_with fail
        refine (C1.out _ B0.out).mono ?_
        rintro e W1 ⟨rfl, b1⟩
        have F1 := Lib.hid (F0.out.below b1 F0.out.lt)
        have B1 := Lib.hid (B0.out.trans (b1.mono B0.out.size))
        have tc := (T0.out.below b1 T0.out.lt).c0
        have tl := (T0.out.below b1 T0.out.lt).lt
        have d0 := (B1.out.cell (p := ⟨b, o + m * 8, none⟩) hb).trans c0
        have hbl : b < W1.heap.size := Nat.lt_of_lt_of_le hb B1.out.size
        obtain ⟨l9, a0, a1, f0, f1⟩ := F1.out
        have hs1 := B1.out.size
        clear b1
        go_wp2
        exact bodyPost_ret (v := faultV 0 0) (by simp [results, Tryz.results53, faultV, go_sem, a0, a1, l9]) rfl ⟨by rw [E.out], by repeat (first | exact B1.out | refine Below.setCell ?_ (by first | omega | (simp; done) | (simp; omega)) _ | refine Below.alloc ?_ (by first | omega | (simp; done) | (simp; omega)) _ | refine Below.drew ?_)⟩
      · rw [if_pos h2] at e
        have E := Lib.hid e
        have h2b : (gk != 2) = true := by simpa using h2
        clear e h2
        go_enter Tryz.func53, Tryz.ntmps53
        go_wp2_with fail
        refine (C1.out _ B0.out).mono ?_
        rintro e W1 ⟨rfl, b1⟩
        have F1 := Lib.hid (F0.out.below b1 F0.out.lt)
        have B1 := Lib.hid (B0.out.trans (b1.mono B0.out.size))
        have tc := (T0.out.below b1 T0.out.lt).c0
        have tl := (T0.out.below b1 T0.out.lt).lt
        have d0 := (B1.out.cell (p := ⟨b, o + m * 8, none⟩) hb).trans c0
        have hbl : b < W1.heap.size := Nat.lt_of_lt_of_le hb B1.out.size
        obtain ⟨l9, a0, a1, f0, f1⟩ := F1.out
        have hs1 := B1.out.size
        clear b1
        go_wp2
        exact bodyPost_ret (v := faultV 8 (-1)) (by simp [results, Tryz.results53, faultV, go_sem, a0, a1, l9]) rfl ⟨by rw [E.out], by repeat (first | exact B1.out | refine Below.setCell ?_ (by first | omega | (simp; done) | (simp; omega)) _ | refine Below.alloc ?_ (by first | omega | (simp; done) | (simp; omega)) _ | refine Below.drew ?_)⟩
  · have e : fileF t n size = valT t := by unfold fileF; rw [if_pos hq]
    have hq1 : ((valT t).1 != 0) = true := by simpa using hq
    have hq2 : ((valT t).1 == 0) = false := by simpa using hq
    have E := Lib.hid e
    clear h hq e
    generalize valT t = v at *
    obtain ⟨q, r⟩ := v
    simp only at *
    go_enter Tryz.func53, Tryz.ntmps53
    go_wp2_with fail
    refine (C1.out _ B0.out).mono ?_
    rintro e W1 ⟨rfl, b1⟩
    have F1 := Lib.hid (F0.out.below b1 F0.out.lt)
    have B1 := Lib.hid (B0.out.trans (b1.mono B0.out.size))
    obtain ⟨l9, a0, a1, f0, f1⟩ := F1.out
    have hs1 := B1.out.size
    clear b1
    go_wp2
    exact bodyPost_ret (v := faultV q r) (by simp [results, Tryz.results53, faultV, go_sem, a0, a1, l9]) rfl ⟨by rw [E.out], by repeat (first | exact B1.out | refine Below.setCell ?_ (by first | omega | (simp; done) | (simp; omega)) _ | refine Below.alloc ?_ (by first | omega | (simp; done) | (simp; omega)) _ | refine Below.drew ?_)⟩

end Go.Proofs.YtmbbmmnpkdfecaaGreatDoor

/- quota.Remaining at every tree and file number. Conditions: the tree's cells lie in memory as they read; the number is an int's. -/

set_option linter.all false
namespace Go.Proofs.YtmbbmmnpkdfecaaGreatDoor
open Go.RowKit

def remStep (s : Int) (p : Nat × Int) : Int := min s p.2
/-- How many bytes the file can grow. -/
def remF (t : Tr) (file k : Nat) : Int := (qL t file k).foldl remStep (200 - (nod t file).dl)
theorem rem_fold : ∀ (l : List (Nat × Int)) (s r : Int), r ≤ l.foldl remStep s ↔ r ≤ s ∧ ∀ p ∈ l, r ≤ p.2
  | [], s, r => by simp
  | p :: l, s, r => by
    rw [List.foldl_cons, rem_fold l]
    have : r ≤ remStep s p ↔ r ≤ s ∧ r ≤ p.2 := by unfold remStep; omega
    rw [this]
    simp only [List.mem_cons, forall_eq_or_imp]
    exact ⟨fun ⟨⟨h1, h2⟩, h3⟩ => ⟨h1, h2, h3⟩, fun ⟨h1, h2, h3⟩ => ⟨⟨h1, h2⟩, h3⟩⟩
theorem remF_le {t : Tr} {file k : Nat} : remF t file k ≤ 200 - (nod t file).dl := ((rem_fold (qL t file k) _ _).1 (Int.le_refl (remF t file k))).1

/-- What Remaining's visitor has: the number in box pr. -/
def RI (pr : Nat) (W : World) (s : Int) (S : Nat → Prop) : Prop := One W pr (.int .i64 s) ∧ ∀ b, S b ↔ b = pr
theorem eg_rem1 : ∀ args w, (callFunc 55 args).run Tryz.prog w = .ok (.enter 55 args) w := enters_of Tryz.func55 (by kernel_rfl) rfl
set_option maxRecDepth 100000 in
set_option maxHeartbeats 1600000 in
theorem rem1_any (pr : Nat) (W : World) (s : Int) (S : Nat → Prop) (n : Nat) (r : Int) (hI : RI pr W s S) :
    Calls Tryz.prog 55 #[.int .i64 (n : Int), .int .i64 r, .pointer (some ⟨pr, 0, none⟩)] W fun e W' => e = .returned (.tuple #[]) ∧ ∃ S', RI pr W' (remStep s (n, r)) S' ∧ Kept S none W W' ∧ ∀ b, S' b → S b ∨ W.heap.size ≤ b := by
  obtain ⟨oe, hS⟩ := hI
  have HS := Lib.hid hS
  have OE := Lib.hid oe
  have c2 := oe.c0
  have cl2 := oe.lt
  have oez := oe.f0
  clear oe hS
  go_enter Tryz.func55, Tryz.ntmps55
  go_wp2
  go_end0
  exact ⟨rfl, S, ⟨OE.out.set _, HS.out⟩, (show Kept S none W W from Kept.refl _ _ _).set ((HS.out pr).2 rfl) _, fun b hb => .inl hb⟩
theorem visR (pr : Nat) : VisQ 55 #[.pointer (some ⟨pr, 0, none⟩)] (pr + 1) (RI pr) remStep (fun _ => True) := by
  refine ⟨eg_rem1, fun W s S hI b hb => ?_, fun W W' s S hI hb hS => ?_, fun W s S n r hH hI hP _ _ _ => rem1_any pr W s S n r hI⟩
  · rw [(hI.2 b).1 hb]; exact hI.1.lt
  · exact ⟨hI.1.below hb (by omega), hI.2⟩

/-- What quota.Remaining returns: the fault, or the number. -/
def RemPost (t : Tr) (n : Int) (w : World) (e : Ending) (w' : World) : Prop :=
  ((fileF t n 0).1 ≠ 0 ∧ e = .returned (.tuple #[.int .i64 0, faultV (fileF t n 0).1 (fileF t n 0).2]) ∧ Below w.heap.size w w') ∨
    ((fileF t n 0).1 = 0 ∧ e = .returned (.tuple #[.int .i64 (remF t n.toNat t.length), faultV 0 0]) ∧ Below w.heap.size w w')

set_option maxRecDepth 100000 in
set_option maxHeartbeats 3200000 in
theorem remaining_any (a : Option Addr) (c : Nat) (t : Tr) (n : Int) (w : World) (h : Nods w w.heap.size a c t) :
    Calls Tryz.prog 29 #[.agg #[.slice a t.length c], .int .i64 n] w (RemPost t n w) := by
  have C1 := Lib.hid (fun W (hb : Below w.heap.size w W) => checkFile_any a c t n 0 W (h.up hb))
  have T0 := Lib.hid (show One ((w.alloc (.cells #[.slice a t.length c] 24)).alloc (.cells #[.int .i64 0, .int .i64 0] 37)) w.heap.size (.slice a t.length c) from (One.new w _ _).alloc _)
  have F0 := Lib.hid (show FBox ((w.alloc (.cells #[.slice a t.length c] 24)).alloc (.cells #[.int .i64 0, .int .i64 0] 37)) (w.heap.size + 1) 0 0 from (FBox.new (w.alloc _) 0 0 _).at_ (by simp))
  have B0 := Lib.hid (show Below w.heap.size w ((w.alloc (.cells #[.slice a t.length c] 24)).alloc (.cells #[.int .i64 0, .int .i64 0] 37)) from ((Below.refl _ _).alloc (Nat.le_refl _) _).alloc (by first | omega | (simp; done) | (simp; omega)) _)
  unfold RemPost
  by_cases hq : (fileF t n 0).1 = 0
  · obtain ⟨hv, ⟨m, rfl, hm, hk⟩, _, _, hz⟩ := fileF_zero hq
    obtain ⟨hd, p4⟩ := valT_ok hv
    have H1 := Lib.hid (Pass.ok1 hd (p4.mono (by omega)))
    have HQ := Lib.hid hq
    rw [Int.toNat_natCast]
    have h40 := H1.out.le
    have hdl := (H1.out.fine m).dl
    rw [hz] at C1
    have mlz : (m : Int) < (t.length : Int) := by omega
    have mz : (0 : Int) ≤ (m : Int) := Int.natCast_nonneg _
    obtain ⟨b, o, ve, vd, va, vx, rfl, hb, hc, hs⟩ := h.one hm
    obtain ⟨da, dc, rfl, _⟩ := hs.dl
    have c3 := hc.c3
    have HV := Lib.hid (fun W (hb : Below w.heap.size w W) (pr : Nat) (d2 : W.heap.size = pr + 1) (d3 : w.heap.size ≤ pr) (hI : RI pr W (200 - (nod t m).dl) (fun x => x = pr)) =>
      visitQ_any (some ⟨b, o, none⟩) c t m w.heap.size W (show VisQ 55 #[.pointer (some ⟨pr, 0, none⟩)] W.heap.size (RI pr) remStep (fun _ => True) from by rw [d2]; exact visR pr) hd (p4.mono (by omega)) hm (h.below hb) hb.size (200 - (nod t m).dl) (fun x => x = pr) hI (fun x hx => by omega) (fun k hk9 => trivial))
    have HXL := Lib.hid (show remF t m t.length = (qL t m t.length).foldl remStep (200 - (nod t m).dl) from rfl)
    clear hc hs h hz hq hv hd p4 hk
    generalize (nod t m).dl = gd at *
    have hwr : IntKind.i64.wrap (200 - (gd : Int)) = 200 - (gd : Int) := IntWalk.i64_in _ (by omega)
    go_enter Tryz.func29, Tryz.ntmps29
    go_wp2_with fail
    refine (C1.out _ B0.out).mono ?_
    rintro e W1 ⟨rfl, b1⟩
    have F1 := Lib.hid (F0.out.below b1 F0.out.lt)
    have B1 := Lib.hid (B0.out.trans (b1.mono B0.out.size))
    have T1 := Lib.hid (T0.out.below b1 T0.out.lt)
    have tc := T1.out.c0
    have tl := T1.out.lt
    have d3 := (B1.out.cell (p := ⟨b, o + m * 8 + 3, none⟩) hb).trans c3
    have hbl : b < W1.heap.size := Nat.lt_of_lt_of_le hb B1.out.size
    have hs1 := B1.out.size
    clear b1
    unfold faultV
    have tw1 := (T1.out.alloc (.cells #[.int .i64 0, .int .i64 0] 37)).c0
    have tw2 := ((T1.out.alloc (.cells #[.int .i64 0, .int .i64 0] 37)).alloc (.cells #[.int .i64 (200 - (gd : Int))] 3)).c0
    have tl1 : w.heap.size < W1.heap.size + 1 := by omega
    have tl2 : w.heap.size < W1.heap.size + 1 + 1 := by omega
    go_wp2_with fail
    clear tw1 tw2
    have BN := Lib.hid (show Below W1.heap.size W1 ((W1.alloc (.cells #[.int .i64 0, .int .i64 0] 37)).alloc (.cells #[.int .i64 (200 - (gd : Int))] 3)) from ((Below.refl _ _).alloc (Nat.le_refl _) _).alloc (by first | omega | (simp; done) | (simp; omega)) _)
    have IN := Lib.hid (show RI (W1.heap.size + 1) ((W1.alloc (.cells #[.int .i64 0, .int .i64 0] 37)).alloc (.cells #[.int .i64 (200 - (gd : Int))] 3)) (200 - (gd : Int)) (fun x => x = W1.heap.size + 1) from
      ⟨(One.new (W1.alloc _) _ _).at_ (by simp), fun b => Iff.rfl⟩)
    have BW := Lib.hid (B1.out.trans (BN.out.mono hs1))
    have FW := Lib.hid (F1.out.below BN.out F1.out.lt)
    have hF1l := F1.out.lt
    refine (HV.out _ BW.out (W1.heap.size + 1) (by simp) (by omega) IN.out).mono ?_
    rintro e W5 ⟨rfl, S', ⟨oe, _⟩, K, _⟩
    have F5 := Lib.hid (FW.out.of_block (K.block _ FW.out.lt (by omega) (by simp)))
    have B5 := Lib.hid (BW.out.trans (K.below BW.out.size (fun x hx => by omega) (by simp)))
    obtain ⟨l9, a0, a1, f0, f1⟩ := F5.out
    rw [← HXL.out] at oe
    have oc := oe.c0
    have ol := oe.lt
    clear K oe
    go_wp2
    exact bodyPost_ret (v := .tuple #[.int .i64 (remF t m t.length), faultV 0 0]) (by simp [results, Tryz.results29, faultV, go_sem, a0, a1, l9]) rfl (.inr ⟨HQ.out, rfl, (B5.out.setCell (by simp) _).setCell (by simp) _⟩)
  · have HQ := Lib.hid hq
    have hq1 : ((fileF t n 0).1 != 0) = true := by simpa using hq
    have hq2 : ((fileF t n 0).1 == 0) = false := by simpa using hq
    clear h hq
    unfold faultV at C1
    generalize (fileF t n 0).1 = q at *
    generalize (fileF t n 0).2 = r at *
    go_enter Tryz.func29, Tryz.ntmps29
    go_wp2_with fail
    refine (C1.out _ B0.out).mono ?_
    rintro e W1 ⟨rfl, b1⟩
    have F1 := Lib.hid (F0.out.below b1 F0.out.lt)
    have B1 := Lib.hid (B0.out.trans (b1.mono B0.out.size))
    obtain ⟨l9, a0, a1, f0, f1⟩ := F1.out
    have hs1 := B1.out.size
    clear b1
    go_wp2
    go_region
    go_wp2
    exact bodyPost_ret (v := .tuple #[.int .i64 0, faultV q r]) (by simp [results, Tryz.results29, faultV, go_sem, a0, a1, l9]) rfl (.inl ⟨HQ.out, rfl, by repeat (first | exact B1.out | refine Below.setCell ?_ (by first | omega | (simp; done) | (simp; omega)) _ | refine Below.alloc ?_ (by first | omega | (simp; done) | (simp; omega)) _ | refine Below.drew ?_)⟩)

end Go.Proofs.YtmbbmmnpkdfecaaGreatDoor

/- Trees that differ in the size of one file: the same paths, the same entries; how much lies below. No program. -/

set_option linter.all false
namespace Go.Proofs.YtmbbmmnpkdfecaaGreatDoor
open Go.RowKit

/-- File n with this size. -/
def reSize (t : Tr) (n s : Nat) : Tr := t.set n { nod t n with dl := s }
theorem re_len (t : Tr) (n s : Nat) : (reSize t n s).length = t.length := by unfold reSize; simp
theorem nod_re {t : Tr} {n s : Nat} (hn : n < t.length) (m : Nat) : nod (reSize t n s) m = if m = n then { nod t n with dl := s } else nod t m := by
  have h1 : ∀ x : Nod, nod (t.set n x) m = if m = n then x else nod t m := fun x => by
    unfold nod
    rw [List.getD_eq_getElem?_getD, List.getElem?_set, List.getD_eq_getElem?_getD]
    by_cases h : m = n
    · subst h; simp [hn]
    · have h2 : ¬ n = m := fun e => h e.symm
      simp [h, h2]
  exact h1 _
theorem kids_re {t : Tr} {n s : Nat} (hn : n < t.length) (m : Nat) : kids (reSize t n s) m = kids t m := by
  unfold kids; rw [nod_re hn]; split
  · rename_i h; rw [h]
  · rfl
theorem k_re {t : Tr} {n s : Nat} (hn : n < t.length) (m : Nat) : (nod (reSize t n s) m).k = (nod t m).k := by
  rw [nod_re hn]; split
  · rename_i h; rw [h]
  · rfl
theorem used_re {t : Tr} {n s : Nat} (hn : n < t.length) : used (reSize t n s) = used t := by
  funext i
  unfold used
  rw [re_len, k_re hn]
theorem dfs_re {t : Tr} {n s : Nat} (hn : n < t.length) : ∀ (d : Nat) (xs : List ByteArray) (m : Nat), dfs (reSize t n s) d xs m = dfs t d xs m
  | 0, _, _ => rfl
  | d + 1, xs, m => by
    unfold dfs
    rw [kids_re hn]
    congr 1
    congr 1
    funext e
    exact dfs_re hn d _ _
theorem visits_re {t : Tr} {n s : Nat} (hn : n < t.length) (m : Nat) : visits (reSize t n s) m = visits t m := by
  unfold visits sub; rw [re_len]; exact dfs_re hn _ _ _
theorem rch_re {t : Tr} {n s : Nat} (hn : n < t.length) {b m : Nat} {xs : List ByteArray} (h : Rch (reSize t n s) b xs m) : Rch t b xs m := by
  induction h with
  | nil => exact .nil
  | snoc _ he ih => rw [kids_re hn] at he; exact .snoc ih he
theorem from_re {t : Tr} {n s b : Nat} (hn : n < t.length) (h : From t b) : From (reSize t n s) b :=
  ⟨fun xs m hr => by rw [re_len]; exact h.fin xs m (rch_re hn hr), by rw [re_len]; exact h.lt, by rw [k_re hn]; exact h.used, fun xs ys m hk hx hy => h.uniq xs ys m (by rw [k_re hn] at hk; exact hk) (rch_re hn hx) (rch_re hn hy)⟩
theorem ok1_re {t : Tr} {n s : Nat} (hn : n < t.length) (h : Ok1 t) (hk : (nod t n).k = 2) (hs : s ≤ 200) : Ok1 (reSize t n s) := by
  refine ⟨by rw [re_len]; exact h.ne, by rw [re_len]; exact h.le, by rw [k_re hn]; exact h.root, fun m hm => ?_⟩
  rw [re_len] at hm
  refine code_of ?_
  rw [used_re hn, nod_re hn]
  have h2 := nok_of (h.code m hm)
  split
  · rename_i e
    subst e
    exact ⟨fun h0 => by simp only at h0; omega, h2.kind, h2.o0, h2.o7, h2.v0, h2.v1, h2.q0, h2.q1, fun h0 => by simp only at h0; omega, h2.file, hs, h2.ac, h2.xs, h2.len, h2.ent, h2.srt⟩
  · exact h2
theorem sum_re (f : Nat → Nat) (n : Nat) (g : Nat) : ∀ m, ((((List.range m).map fun i => if i = n then g else f i).sum : Nat) : Int) = (((List.range m).map f).sum : Nat) + if n < m then (g : Int) - f n else 0
  | 0 => by simp
  | m + 1 => by
    have ih := sum_re f n g m
    rw [List.range_succ, List.map_append, List.map_append, List.sum_append, List.sum_append]
    simp only [List.map_cons, List.map_nil, List.sum_cons, List.sum_nil, Nat.add_zero]
    rw [Int.natCast_add, Int.natCast_add, ih]
    by_cases h : m = n
    · subst h; simp only [if_true, Nat.lt_irrefl, if_false, Nat.lt_succ_self]; omega
    · rw [if_neg h]
      by_cases h2 : n < m
      · rw [if_pos h2, if_pos (by omega)]; omega
      · rw [if_neg h2, if_neg (by omega)]; omega
theorem usgN_re {t : Tr} {n s : Nat} (hn : n < t.length) (i : Nat) : (usgN (reSize t n s) i : Int) = (usgN t i : Nat) + if hasL (visits t i) n = true then (s : Int) - (nod t n).dl else 0 := by
  unfold usgN usg
  rw [visits_re hn, re_len]
  have e : ((List.range t.length).map fun j => if hasL (visits t i) j = true then (nod (reSize t n s) j).dl else 0) = (List.range t.length).map fun j => if j = n then (if hasL (visits t i) n = true then s else 0) else (fun j => if hasL (visits t i) j = true then (nod t j).dl else 0) j := by
    refine List.map_congr_left fun j _ => ?_
    rw [nod_re hn]
    by_cases h : j = n
    · subst h; simp
    · simp [h]
  rw [e, sum_re, if_pos hn]
  by_cases h : hasL (visits t i) n = true
  · simp [h]
  · simp [h]

/-- Directory i would be too full, in the reference's words. -/
def exB (t : Tr) (n s i : Nat) : Prop := 0 < (nod t i).q ∧ (nod t i).q < (usgN (reSize t n s) i : Nat) ∧ (usgN t i : Int) < (usgN (reSize t n s) i : Nat)
theorem exB_iff {t : Tr} (hd : Head t) (p4 : Pass t 4) {n s i : Nat} (hn : n < t.length) (hi : i < t.length) : exB t n s i ↔ qOn t n i = true ∧ room t i < (s : Int) - (nod t n).dl := by
  have h1 := Pass.ok1 hd (p4.mono (by omega))
  have hq0 := (h1.fine i).q0
  have hc : codeQ t i = 0 := p4 3 (by omega) i hi
  have hle : (nod t i).q ≠ 0 → (usgN t i : Int) ≤ (nod t i).q := fun hq => by
    unfold codeQ at hc
    split at hc
    · cases hc
    · rename_i h; unfold usgN; omega
  have hu := usgN_re (s := s) hn i
  unfold exB qOn room
  cases hh : hasL (visits t i) n with
  | false =>
    rw [hh] at hu
    simp only [Bool.and_false, Bool.false_eq_true, if_false, false_and, iff_false] at hu ⊢
    omega
  | true =>
    rw [hh] at hu
    simp only [if_true, Bool.and_true, decide_eq_true_eq] at hu ⊢
    constructor
    · rintro ⟨a1, a2, a3⟩; omega
    · rintro ⟨a1, a2⟩
      have := hle a1
      omega

end Go.Proofs.YtmbbmmnpkdfecaaGreatDoor

/- What the law on appending to a file needs beside package memfs. No program of its own. -/

set_option linter.all false
namespace Go.Proofs.YtmbbmmnpkdfecaaGreatDoor
open Go.RowKit

end Go.Proofs.YtmbbmmnpkdfecaaGreatDoor
