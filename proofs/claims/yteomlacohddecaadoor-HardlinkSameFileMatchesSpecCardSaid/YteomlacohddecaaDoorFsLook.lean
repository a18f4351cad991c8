/- fstree.Lookup at every tree and string. Conditions: the library's variable that bounds a search holds an int; the string is of at most the model's longest length; the cells lie in memory as they read. -/
import Derived.Test.YteomlacohddecaaDoorFsRes
import Derived.Test.YteomlacohddecaaDoorFsValid
import Derived.IntWalk

set_option linter.all false
namespace Go.Proofs.YteomlacohddecaaDoor
open Go.RowKit

/-- The inode and the fault that Lookup returns. -/
def lookF (t : Tr) (p : ByteArray) : Nat × Int × Int :=
  if (valT t).1 ≠ 0 then (0, (valT t).1, (valT t).2)
  else if (splitF p).1 ≠ 0 then (0, (splitF p).1, -1 - (splitF p).2)
  else ((resT t (splitL p) 0 0).1, (resT t (splitL p) 0 0).2.1, (((resT t (splitL p) 0 0).2.2 : Nat) : Int))
theorem lookF_bad {t : Tr} {p : ByteArray} (h : (valT t).1 ≠ 0) : lookF t p = (0, (valT t).1, (valT t).2) := by unfold lookF; rw [if_pos h]
theorem lookF_split {t : Tr} {p : ByteArray} (h : (valT t).1 = 0) (h2 : (splitF p).1 ≠ 0) : lookF t p = (0, (splitF p).1, -1 - (splitF p).2) := by unfold lookF; rw [if_neg (by simpa using h), if_pos h2]
theorem lookF_res {t : Tr} {p : ByteArray} (h : (valT t).1 = 0) (h2 : (splitF p).1 = 0) : lookF t p = ((resT t (splitL p) 0 0).1, (resT t (splitL p) 0 0).2.1, (((resT t (splitL p) 0 0).2.2 : Nat) : Int)) := by unfold lookF; rw [if_neg (by simpa using h), if_neg (by simpa using h2)]
theorem splitF_bound {p : ByteArray} : 0 ≤ (splitF p).2 ∧ (splitF p).2 ≤ 200 := by
  unfold splitF
  split
  · simp
  · rename_i hl
    split
    · simp
    · rename_i c r hd
      split
      · split
        · simp
        · have h1 := comps_len_le r
          have h2 : r.length ≤ 100 := by
            have e : p.data.toList.length = p.size := by simp
            rw [hd] at e
            simp at e
            omega
          unfold compFault
          split
          · rename_i h3
            have : firstBad (comps r) < (comps r).length := h3
            constructor
            · exact Int.natCast_nonneg _
            · show ((firstBad (comps r) : Nat) : Int) ≤ 200
              omega
          · split <;> simp
      · simp

/-- What holds along the components. -/
structure KInv (w wr : World) (a : Option Addr) (c : Nat) (t : Tr) (B : Nat) (v : Value) (xs : List ByteArray) : Prop where
  b : Below w.heap.size w wr
  tb : One wr w.heap.size (.slice a t.length c)
  fb : FBox wr (w.heap.size + 1) 0 0
  xs : Strs wr B v xs
  hB : B ≤ wr.heap.size
theorem KInv.step {w wr z : World} {a : Option Addr} {c : Nat} {t : Tr} {B : Nat} {v : Value} {xs : List ByteArray} (h : KInv w wr a c t B v xs) (hb : Below wr.heap.size wr z) : KInv w z a c t B v xs :=
  ⟨h.b.trans (hb.mono h.b.size), h.tb.below hb h.tb.lt, h.fb.below hb h.fb.lt, h.xs.below (hb.mono h.hB), Nat.le_trans h.hB hb.size⟩

set_option maxRecDepth 100000 in
set_option maxHeartbeats 6400000 in
theorem lookup_any (a : Option Addr) (c : Nat) (t : Tr) (p : ByteArray) (w : World) (gm : GM w) (hp : p.size ≤ maxLen) (h : Nods w w.heap.size a c t) :
    Calls Tryd.prog 5 #[.agg #[.slice a t.length c], .string p] w fun e w' => e = .returned (.tuple #[.int .i64 ((lookF t p).1 : Nat), faultV (lookF t p).2.1 (lookF t p).2.2]) ∧ Below w.heap.size w w' := by
  have H := Lib.hid h
  have C1 := Lib.hid (fun W (hb : Below w.heap.size w W) => validT_any a c t W (h.up hb))
  have C2 := Lib.hid (fun W (hb : Below w.heap.size w W) => pathSplit_any p W (gm.below hb) hp)
  have T0 := Lib.hid (show One ((w.alloc (.cells #[.slice a t.length c] 24)).alloc (.cells #[.int .i64 0, .int .i64 0] 26)) w.heap.size (.slice a t.length c) from (One.new w _ _).alloc _)
  have F0 := Lib.hid (show FBox ((w.alloc (.cells #[.slice a t.length c] 24)).alloc (.cells #[.int .i64 0, .int .i64 0] 26)) (w.heap.size + 1) 0 0 from (FBox.new (w.alloc _) 0 0 _).at_ (by simp))
  have B0 := Lib.hid (show Below w.heap.size w ((w.alloc (.cells #[.slice a t.length c] 24)).alloc (.cells #[.int .i64 0, .int .i64 0] 26)) from ((Below.refl _ _).alloc (Nat.le_refl _) _).alloc (by first | omega | (simp; done) | (simp; omega)) _)
  unfold SplitPost at C2
  unfold faultV at C1
  by_cases hq : (valT t).1 = 0
  · have hz := valT_zero hq
    obtain ⟨hd, p4⟩ := valT_ok hq
    have O1 := Lib.hid (Pass.ok1 hd (p4.mono (by omega)))
    rw [hz] at C1
    by_cases hs : (splitF p).1 = 0
    · rw [lookF_res hq hs]
      rw [hs] at C2
      clear hq hz hd p4 hs h gm
      have hne := O1.out.ne
      have K00 := Lib.hid (show (nod t 0).k ≠ 0 by rw [O1.out.root]; decide)
      generalize splitL p = xs at *
      generalize (splitF p).2 = sr at *
      generalize hR : resT t xs 0 0 = R at *
      have HR := Lib.hid hR
      clear hR
      go_enter Tryd.func5, Tryd.ntmps5
      go_wp2_with fail
      refine (C1.out _ B0.out).mono ?_
      rintro e W1 ⟨rfl, b1⟩
      have T1 := Lib.hid ((T0.out.below b1 T0.out.lt).alloc (.cells #[.int .i64 0, .int .i64 0] 26))
      have F1 := Lib.hid ((F0.out.below b1 F0.out.lt).alloc (.cells #[.int .i64 0, .int .i64 0] 26))
      have B1 := Lib.hid ((B0.out.trans (b1.mono B0.out.size)).alloc (Nat.le_trans B0.out.size b1.size) (.cells #[.int .i64 0, .int .i64 0] 26))
      clear b1
      go_wp2_with fail
      refine (C2.out _ B1.out).mono ?_
      rintro e W2 ⟨v, rfl, hxs, b2, hlow⟩
      have I2 := Lib.hid (show KInv w (W2.alloc (.cells #[.int .i64 0, .int .i64 sr] 26)) a c t W2.heap.size v xs from
        ⟨(B1.out.trans (b2.mono B1.out.size)).alloc (Nat.le_trans B1.out.size b2.size) _, (T1.out.below b2 T1.out.lt).alloc _, (F1.out.below b2 F1.out.lt).alloc _, hxs.below ((Below.refl _ _).alloc (Nat.le_refl _) _), by simp⟩)
      obtain ⟨xa, xc, rfl, hxc, hxl, _, _⟩ := hxs
      clear b2 hlow C1 C2 T0 F0 B0 T1 F1
      go_wp2_with fail
      go_loopg [9, 10, 11, 12, 13, 14, 37] xs.length (fun gg s9 _ _ _ _ _ s37 wr => ∃ i n : Nat, i ≤ xs.length ∧ xs.length - i ≤ gg ∧ s9 = .int .i64 n ∧ s37 = .int .i64 i ∧ n < t.length ∧ Aside ((nod t n).k ≠ 0) ∧ Aside (KInv w wr a c t W2.heap.size (.slice xa xs.length xc) xs) ∧ Aside (resT t (xs.drop i) n i = R))
      case atStart => exact ⟨0, 0, by omega, by omega, rfl, rfl, hne, K00.out, I2.out, (show resT t (xs.drop 0) 0 0 = R from HR.out)⟩
      case round =>
        obtain ⟨i, n, hi, hg, rfl, rfl, hn, K0, I, RE⟩ := hrel
        clear I2 HR K00
        obtain ⟨w3, rfl⟩ : ∃ w3 : World, w3 = wr := ⟨_, rfl⟩
        have tc := I.out.tb.c0
        have tl := I.out.tb.lt
        have hbs := I.out.b.size
        by_cases hlt : i < xs.length
        · have hltz : (i : Int) < (xs.length : Int) := by omega
          have hi0 : (0 : Int) ≤ (i : Int) := Int.natCast_nonneg _
          have hm9 : xs.length - (i + 1) < xs.length - i := Nat.sub_lt_sub_left hlt (Nat.lt_succ_self i)
          have nlz : (n : Int) < (t.length : Int) := by omega
          have nz : (0 : Int) ≤ (n : Int) := Int.natCast_nonneg _
          obtain ⟨b, o, ve, vd, va, vx, rfl, hb, hc, hs⟩ := (H.out.up I.out.b).one hn
          have hes := hs.es
          obtain ⟨ea, ec, rfl, hec, hel, hef, hex⟩ := hs.es
          obtain ⟨da, dc, rfl, _⟩ := hs.dl
          obtain ⟨aa, acp, rfl, _⟩ := hs.ac
          obtain ⟨ya, yc, rfl, _⟩ := hs.xs
          have h0 := hc.c0
          have h1 := hc.c1
          have h2 := hc.c2
          have h3 := hc.c3
          have h4 := hc.c4
          have h5 := hc.c5
          have h6 := hc.c6
          have h7 := hc.c7
          have SRT := Lib.hid (show SrtE (kids t n) from (O1.out.fine n).srt)
          have FD := Lib.hid (fun x W (hb : Below w3.heap.size w3 W) => (show Calls Tryd.prog 9 #[.slice ea (kids t n).length ec, .string x] W _ from Ffind_any _ (kids t n) x W (hes.up hb) SRT.out))
          change (kids t n).length ≤ ec at hec
          change (kids t n).length ≤ 35184372088832 at hel
          change w3.cell? ⟨b, o + n * 8 + 2, none⟩ = some (.slice ea (kids t n).length ec) at h2
          have HEX := Lib.hid (show 0 < (kids t n).length → ∃ b o, ea = some ⟨b, o, none⟩ ∧ b < w3.heap.size ∧ ∀ j, j < (kids t n).length →
            w3.cell? ⟨b, o + j * 2, none⟩ = some (.string ((kids t n).getD j D0).n) ∧ w3.cell? ⟨b, o + j * 2 + 1, none⟩ = some (.int .i64 ((kids t n).getD j D0).i) from hex)
          have hkind := (O1.out.fine n).kind
          have HFD := Lib.hid (fun x => kid_found O1.out (n := n) (x := x))
          have RF := Lib.hid (fun (hk : (nod t n).k = 2) => resT_file (t := t) hlt hk)
          have RM := Lib.hid (fun (hk : (nod t n).k ≠ 2) hf => resT_miss (t := t) hlt hk hf)
          have RH := Lib.hid (fun (hk : (nod t n).k ≠ 2) hf => resT_hit (t := t) hlt hk hf)
          obtain ⟨xb, xo, rfl, hxb, hxj⟩ := strs_at I.out.xs (by omega)
          have x0 := hxj i hlt
          have hkk : (nod t n).k = 1 ∨ (nod t n).k = 2 := by
            rcases hkind with h9 | h9 | h9
            · exact absurd h9 K0.out
            · exact .inl h9
            · exact .inr h9
          clear hc hs hes hef hex hxj hkind
          generalize xs.getD i ByteArray.empty = x at *
          change w3.cell? ⟨b, o + n * 8 + 3, none⟩ = some (.slice da (nod t n).dl dc) at h3
          generalize (nod t n).dl = gd at *
          generalize (nod t n).ac.length = ga at *
          generalize (nod t n).xs.length = gx at *
          generalize (nod t n).o = go at *
          generalize (nod t n).q = gq at *
          generalize (nod t n).v = gv at *
          generalize hm : (kids t n).length = m at *
          rcases hkk with hk | hk
          · rw [hk] at h0
            have RM2 := Lib.hid (fun hf => RM.out (by rw [hk]; decide) hf)
            have RH2 := Lib.hid (fun hf => RH.out (by rw [hk]; decide) hf)
            clear hk RM RH RF
            have I4 := Lib.hid (I.out.step ((Below.refl w3.heap.size w3).alloc (Nat.le_refl _) (.cells #[.int .i64 1, .int .i64 go, .slice ea m ec, .slice da gd dc, .slice aa ga acp, .slice ya gx yc, .int .i64 gq, .int .i64 gv] 42)))
            have B4 := Lib.hid ((Below.refl w3.heap.size w3).alloc (Nat.le_refl _) (.cells #[.int .i64 1, .int .i64 go, .slice ea m ec, .slice da gd dc, .slice aa ga acp, .slice ya gx yc, .int .i64 gq, .int .i64 gv] 42))
            cases hf : fndE (kids t n) x with
            | true =>
              obtain ⟨hl9, hi9, hn9, hk9⟩ := HFD.out x hf
              have RE2 := Lib.hid ((RH2.out hf).symm.trans RE.out)
              have FD2 := Lib.hid (FD.out x _ B4.out)
              rw [hf] at FD2
              obtain ⟨be, oe, rfl, hbe, hje⟩ := HEX.out (by omega)
              have e1 := (hje _ hl9).2
              have hlm : lowE (kids t n) x < m := hl9
              clear hje hf HEX hm hl9
              generalize ((kids t n).getD (lowE (kids t n) x) D0).i = ei at *
              generalize lowE (kids t n) x = lo at *
              obtain ⟨n2, rfl⟩ := Int.eq_ofNat_of_zero_le (Int.le_of_lt hi9)
              simp only [Int.toNat_natCast] at hn9 hk9 RE2
              have K9 := Lib.hid hk9
              have loz : (lo : Int) < (m : Int) := by omega
              have lo0 : (0 : Int) ≤ (lo : Int) := Int.natCast_nonneg _
              clear hk9
              go_wp2_with fail
              refine FD2.out.mono ?_
              rintro e W5 ⟨rfl, b5⟩
              have I5 := Lib.hid (I4.out.step b5)
              have s5 := b5.size
              have g2 : W5.cell? ⟨w3.heap.size, 2, none⟩ = some (.slice (some ⟨be, oe, none⟩) m ec) := (b5.cell (p := ⟨w3.heap.size, 2, none⟩) (by simp)).trans (by simp)
              have ge := ((B4.out.trans (b5.mono B4.out.size)).cell (p := ⟨be, oe + lo * 2 + 1, none⟩) hbe).trans e1
              have gl : w3.heap.size < W5.heap.size := by simp at s5; omega
              clear b5 e1 h0 h1 h2 h3 h4 h5 h6 h7 x0 tc tl
              go_wp2_with fail
              go_roundg (xs.length - (i + 1))
              case measure => exact Nat.lt_of_lt_of_le hm9 hg
              case rel => exact ⟨i + 1, n2, by omega, by omega, rfl, by go_num, hn9, K9.out, I5.out, RE2.out⟩
            | false =>
              have RE2 := Lib.hid ((RM2.out hf).symm.trans RE.out)
              have hRR := RE2.out.symm
              subst hRR
              have FD2 := Lib.hid (FD.out x _ B4.out)
              rw [hf] at FD2
              clear hf HEX hm
              generalize lowE (kids t n) x = lo at *
              go_wp2_with fail
              refine FD2.out.mono ?_
              rintro e W5 ⟨rfl, b5⟩
              have I5 := Lib.hid (I4.out.step b5)
              obtain ⟨l9, a0, a1, f0, f1⟩ := I5.out.fb
              clear b5 h0 h1 h2 h3 h4 h5 h6 h7 x0 tc tl
              go_wp2
              exact bodyPost_ret (v := .tuple #[.int .i64 0, faultV 6 i]) (by simp [results, Tryd.results5, faultV, go_sem, a0, a1]) rfl ⟨rfl, (I5.out.b.setCell (by first | omega | (simp; done) | (simp; omega)) _).setCell (by first | omega | (simp; done) | (simp; omega)) _⟩
          · rw [hk] at h0
            have hRR := ((RF.out hk).symm.trans RE.out).symm
            subst hRR
            clear hk RM RH RF
            obtain ⟨l9, a0, a1, f0, f1⟩ := I.out.fb
            go_wp2
            exact bodyPost_ret (v := .tuple #[.int .i64 0, faultV 8 i]) (by simp [results, Tryd.results5, faultV, go_sem, a0, a1, l9]) rfl ⟨rfl, by repeat (first | exact I.out.b | refine Below.setCell ?_ (by first | omega | (simp; done) | (simp; omega)) _ | refine Below.alloc ?_ (by first | omega | (simp; done) | (simp; omega)) _)⟩
        · obtain rfl : i = xs.length := by omega
          have hRR := ((resT_end (t := t) (xs := xs) (n := n)).symm.trans RE.out).symm
          subst hRR
          obtain ⟨l9, a0, a1, f0, f1⟩ := I.out.fb
          go_wp2
          exact bodyPost_ret (v := .tuple #[.int .i64 n, faultV 0 0]) (by simp [results, Tryd.results5, faultV, go_sem, a0, a1]) rfl ⟨rfl, (I.out.b.setCell (by first | omega | (simp; done) | (simp; omega)) _).setCell (by first | omega | (simp; done) | (simp; omega)) _⟩
    · rw [lookF_split hq hs]
      have hbd := splitF_bound (p := p)
      have hs1 : ((splitF p).1 != 0) = true := by simpa using hs
      have hs2 : ((splitF p).1 == 0) = false := by simpa using hs
      clear hq hz hd p4 hs h gm
      generalize splitL p = xs at *
      generalize (splitF p).1 = sq at *
      generalize (splitF p).2 = sr at *
      have hwr : IntKind.i64.wrap (-1 - sr) = -1 - sr := IntWalk.i64_in _ (by omega)
      go_enter Tryd.func5, Tryd.ntmps5
      go_wp2_with fail
      refine (C1.out _ B0.out).mono ?_
      rintro e W1 ⟨rfl, b1⟩
      have F1 := Lib.hid ((F0.out.below b1 F0.out.lt).alloc (.cells #[.int .i64 0, .int .i64 0] 26))
      have B1 := Lib.hid ((B0.out.trans (b1.mono B0.out.size)).alloc (Nat.le_trans B0.out.size b1.size) (.cells #[.int .i64 0, .int .i64 0] 26))
      clear b1
      go_wp2_with fail
      refine (C2.out _ B1.out).mono ?_
      rintro e W2 ⟨v, rfl, _, b2, _⟩
      have F2 := Lib.hid (F1.out.below b2 F1.out.lt)
      have B2 := Lib.hid (B1.out.trans (b2.mono B1.out.size))
      obtain ⟨l9, a0, a1, f0, f1⟩ := F2.out
      have hs2' := B2.out.size
      clear b2 C1 C2
      go_wp2
      go_region
      all_goals
        go_wp2
        exact bodyPost_ret (v := .tuple #[.int .i64 0, faultV sq (-1 - sr)]) (by simp [results, Tryd.results5, faultV, go_sem, a0, a1, l9]) rfl ⟨rfl, by repeat (first | exact B2.out | refine Below.setCell ?_ (by first | omega | (simp; done) | (simp; omega)) _ | refine Below.alloc ?_ (by first | omega | (simp; done) | (simp; omega)) _ | refine Below.drew ?_)⟩
  · rw [lookF_bad hq]
    have hq1 : ((valT t).1 != 0) = true := by simpa using hq
    have hq2 : ((valT t).1 == 0) = false := by simpa using hq
    clear hq h gm C2
    generalize (valT t).1 = q at *
    generalize (valT t).2 = r at *
    go_enter Tryd.func5, Tryd.ntmps5
    go_wp2_with fail
    refine (C1.out _ B0.out).mono ?_
    rintro e W1 ⟨rfl, b1⟩
    have F1 := Lib.hid (F0.out.below b1 F0.out.lt)
    have B1 := Lib.hid (B0.out.trans (b1.mono B0.out.size))
    obtain ⟨l9, a0, a1, f0, f1⟩ := F1.out
    have hs1 := B1.out.size
    clear b1
    go_wp2
    go_region
    all_goals
      go_wp2
      exact bodyPost_ret (v := .tuple #[.int .i64 0, faultV q r]) (by simp [results, Tryd.results5, faultV, go_sem, a0, a1, l9]) rfl ⟨rfl, by repeat (first | exact B1.out | refine Below.setCell ?_ (by first | omega | (simp; done) | (simp; omega)) _ | refine Below.alloc ?_ (by first | omega | (simp; done) | (simp; omega)) _ | refine Below.drew ?_)⟩

end Go.Proofs.YteomlacohddecaaDoor
