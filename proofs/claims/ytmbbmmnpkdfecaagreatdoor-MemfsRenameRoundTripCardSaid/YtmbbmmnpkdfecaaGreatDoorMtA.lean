/- What a law of package memfs or of its neighbours needs, at the translation of this seat.
   Condition: as each theorem states; this text: FsLook, MfOps0, MfLnk0, MfRen0. -/
import Derived.Test.YtmbbmmnpkdfecaaGreatDoorMb10
import Derived.Test.YtmbbmmnpkdfecaaGreatDoorMb13
import Derived.IntWalk
import Derived.Test.YtmbbmmnpkdfecaaGreatDoorMb8
import Derived.Test.YtmbbmmnpkdfecaaGreatDoorMrB

set_option linter.all false

/- fstree.Lookup at every tree and string. Conditions: the library's variable that bounds a search holds an int; the string is of at most the model's longest length; the cells lie in memory as they read. -/

set_option linter.all false
namespace Go.Proofs.YtmbbmmnpkdfecaaGreatDoor
open Go.RowKit

/-- The inode and the fault that Lookup returns. -/
def lookF (t : Tr) (p : ByteArray) : Nat × Int × Int :=
  if (valT t).1 ≠ 0 then (0, (valT t).1, (valT t).2)
  else if (splitF p).1 ≠ 0 then (0, (splitF p).1, -1 - (splitF p).2)
  else ((resT t (splitL p) 0 0).1, (resT t (splitL p) 0 0).2.1, (((resT t (splitL p) 0 0).2.2 : Nat) : Int))
theorem lookF_bad {t : Tr} {p : ByteArray} (h : (valT t).1 ≠ 0) : lookF t p = (0, (valT t).1, (valT t).2) := by unfold lookF; rw [if_pos h]
theorem lookF_split {t : Tr} {p : ByteArray} (h : (valT t).1 = 0) (h2 : (splitF p).1 ≠ 0) : lookF t p = (0, (splitF p).1, -1 - (splitF p).2) := by unfold lookF; rw [if_neg (by simpa using h), if_pos h2]
theorem lookF_res {t : Tr} {p : ByteArray} (h : (valT t).1 = 0) (h2 : (splitF p).1 = 0) : lookF t p = ((resT t (splitL p) 0 0).1, (resT t (splitL p) 0 0).2.1, (((resT t (splitL p) 0 0).2.2 : Nat) : Int)) := by unfold lookF; rw [if_neg (by simpa using h), if_neg (by simpa using h2)]
theorem splitF_bound {p : ByteArray} : 0 ≤ (splitF p).2 ∧ (splitF p).2 ≤ 200 := by
  unfold splitF
  split
  · simp
  · rename_i hl
    split
    · simp
    · rename_i c r hd
      split
      · split
        · simp
        · have h1 := comps_len_le r
          have h2 : r.length ≤ 100 := by
            have e : p.data.toList.length = p.size := by simp
            rw [hd] at e
            simp at e
            omega
          unfold compFault
          split
          · rename_i h3
            have : firstBad (comps r) < (comps r).length := h3
            constructor
            · exact Int.natCast_nonneg _
            · show ((firstBad (comps r) : Nat) : Int) ≤ 200
              omega
          · split <;> simp
      · simp

/-- What holds along the components. -/
structure KInv (w wr : World) (a : Option Addr) (c : Nat) (t : Tr) (B : Nat) (v : Value) (xs : List ByteArray) : Prop where
  b : Below w.heap.size w wr
  tb : One wr w.heap.size (.slice a t.length c)
  fb : FBox wr (w.heap.size + 1) 0 0
  xs : Strs wr B v xs
  hB : B ≤ wr.heap.size
theorem KInv.step {w wr z : World} {a : Option Addr} {c : Nat} {t : Tr} {B : Nat} {v : Value} {xs : List ByteArray} (h : KInv w wr a c t B v xs) (hb : Below wr.heap.size wr z) : KInv w z a c t B v xs :=
  ⟨h.b.trans (hb.mono h.b.size), h.tb.below hb h.tb.lt, h.fb.below hb h.fb.lt, h.xs.below (hb.mono h.hB), Nat.le_trans h.hB hb.size⟩

set_option maxRecDepth 100000 in
set_option maxHeartbeats 6400000 in
theorem lookup_any (a : Option Addr) (c : Nat) (t : Tr) (p : ByteArray) (w : World) (gm : GM w) (hp : p.size ≤ maxLen) (h : Nods w w.heap.size a c t) :
    Calls Tryz.prog 23 #[.agg #[.slice a t.length c], .string p] w fun e w' => e = .returned (.tuple #[.int .i64 ((lookF t p).1 : Nat), faultV (lookF t p).2.1 (lookF t p).2.2]) ∧ Below w.heap.size w w' := by
  have H := Lib.hid h
  have C1 := Lib.hid (fun W (hb : Below w.heap.size w W) => validT_any a c t W (h.up hb))
  have C2 := Lib.hid (fun W (hb : Below w.heap.size w W) => pathSplit_any p W (gm.below hb) hp)
  have T0 := Lib.hid (show One ((w.alloc (.cells #[.slice a t.length c] 24)).alloc (.cells #[.int .i64 0, .int .i64 0] 37)) w.heap.size (.slice a t.length c) from (One.new w _ _).alloc _)
  have F0 := Lib.hid (show FBox ((w.alloc (.cells #[.slice a t.length c] 24)).alloc (.cells #[.int .i64 0, .int .i64 0] 37)) (w.heap.size + 1) 0 0 from (FBox.new (w.alloc _) 0 0 _).at_ (by simp))
  have B0 := Lib.hid (show Below w.heap.size w ((w.alloc (.cells #[.slice a t.length c] 24)).alloc (.cells #[.int .i64 0, .int .i64 0] 37)) from ((Below.refl _ _).alloc (Nat.le_refl _) _).alloc (by first | omega | (simp; done) | (simp; omega)) _)
  unfold SplitPost at C2
  unfold faultV at C1
  by_cases hq : (valT t).1 = 0
  · have hz := valT_zero hq
    obtain ⟨hd, p4⟩ := valT_ok hq
    have O1 := Lib.hid (Pass.ok1 hd (p4.mono (by omega)))
    rw [hz] at C1
    by_cases hs : (splitF p).1 = 0
    · rw [lookF_res hq hs]
      rw [hs] at C2
      clear hq hz hd p4 hs h gm
      have hne := O1.out.ne
      have K00 := Lib.hid (show (nod t 0).k ≠ 0 by rw [O1.out.root]; decide)
      generalize splitL p = xs at *
      generalize (splitF p).2 = sr at *
      generalize hR : resT t xs 0 0 = R at *
      have HR := Lib.hid hR
      clear hR
      go_enter Tryz.func23, Tryz.ntmps23
      go_wp2_with fail
      refine (C1.out _ B0.out).mono ?_
      rintro e W1 ⟨rfl, b1⟩
      have T1 := Lib.hid ((T0.out.below b1 T0.out.lt).alloc (.cells #[.int .i64 0, .int .i64 0] 37))
      have F1 := Lib.hid ((F0.out.below b1 F0.out.lt).alloc (.cells #[.int .i64 0, .int .i64 0] 37))
      have B1 := Lib.hid ((B0.out.trans (b1.mono B0.out.size)).alloc (Nat.le_trans B0.out.size b1.size) (.cells #[.int .i64 0, .int .i64 0] 37))
      clear b1
      go_wp2_with fail
      refine (C2.out _ B1.out).mono ?_
      rintro e W2 ⟨v, rfl, hxs, b2, hlow⟩
      have I2 := Lib.hid (show KInv w (W2.alloc (.cells #[.int .i64 0, .int .i64 sr] 37)) a c t W2.heap.size v xs from
        ⟨(B1.out.trans (b2.mono B1.out.size)).alloc (Nat.le_trans B1.out.size b2.size) _, (T1.out.below b2 T1.out.lt).alloc _, (F1.out.below b2 F1.out.lt).alloc _, hxs.below ((Below.refl _ _).alloc (Nat.le_refl _) _), by simp⟩)
      obtain ⟨xa, xc, rfl, hxc, hxl, _, _⟩ := hxs
      clear b2 hlow C1 C2 T0 F0 B0 T1 F1
      go_wp2_with fail
      go_loopg [9, 10, 11, 12, 13, 14, 37] xs.length (fun gg s9 _ _ _ _ _ s37 wr => ∃ i n : Nat, i ≤ xs.length ∧ xs.length - i ≤ gg ∧ s9 = .int .i64 n ∧ s37 = .int .i64 i ∧ n < t.length ∧ Aside ((nod t n).k ≠ 0) ∧ Aside (KInv w wr a c t W2.heap.size (.slice xa xs.length xc) xs) ∧ Aside (resT t (xs.drop i) n i = R))
      case atStart => exact ⟨0, 0, by omega, by omega, rfl, rfl, hne, K00.out, I2.out, (show resT t (xs.drop 0) 0 0 = R from HR.out)⟩
      case round =>
        obtain ⟨i, n, hi, hg, rfl, rfl, hn, K0, I, RE⟩ := hrel
        clear I2 HR K00
        obtain ⟨w3, rfl⟩ : ∃ w3 : World, w3 = wr := ⟨_, rfl⟩
        have tc := I.out.tb.c0
        have tl := I.out.tb.lt
        have hbs := I.out.b.size
        by_cases hlt : i < xs.length
        · have hltz : (i : Int) < (xs.length : Int) := by omega
          have hi0 : (0 : Int) ≤ (i : Int) := Int.natCast_nonneg _
          have hm9 : xs.length - (i + 1) < xs.length - i := Nat.sub_lt_sub_left hlt (Nat.lt_succ_self i)
          have nlz : (n : Int) < (t.length : Int) := by omega
          have nz : (0 : Int) ≤ (n : Int) := Int.natCast_nonneg _
          obtain ⟨b, o, ve, vd, va, vx, rfl, hb, hc, hs⟩ := (H.out.up I.out.b).one hn
          have hes := hs.es
          obtain ⟨ea, ec, rfl, hec, hel, hef, hex⟩ := hs.es
          obtain ⟨da, dc, rfl, _⟩ := hs.dl
          obtain ⟨aa, acp, rfl, _⟩ := hs.ac
          obtain ⟨ya, yc, rfl, _⟩ := hs.xs
          have h0 := hc.c0
          have h1 := hc.c1
          have h2 := hc.c2
          have h3 := hc.c3
          have h4 := hc.c4
          have h5 := hc.c5
          have h6 := hc.c6
          have h7 := hc.c7
          have SRT := Lib.hid (show SrtE (kids t n) from (O1.out.fine n).srt)
          have FD := Lib.hid (fun x W (hb : Below w3.heap.size w3 W) => (show Calls Tryz.prog 49 #[.slice ea (kids t n).length ec, .string x] W _ from Ffind_any _ (kids t n) x W (hes.up hb) SRT.out))
          change (kids t n).length ≤ ec at hec
          change (kids t n).length ≤ 35184372088832 at hel
          change w3.cell? ⟨b, o + n * 8 + 2, none⟩ = some (.slice ea (kids t n).length ec) at h2
          have HEX := Lib.hid (show 0 < (kids t n).length → ∃ b o, ea = some ⟨b, o, none⟩ ∧ b < w3.heap.size ∧ ∀ j, j < (kids t n).length →
            w3.cell? ⟨b, o + j * 2, none⟩ = some (.string ((kids t n).getD j D0).n) ∧ w3.cell? ⟨b, o + j * 2 + 1, none⟩ = some (.int .i64 ((kids t n).getD j D0).i) from hex)
          have hkind := (O1.out.fine n).kind
          have HFD := Lib.hid (fun x => kid_found O1.out (n := n) (x := x))
          have RF := Lib.hid (fun (hk : (nod t n).k = 2) => resT_file (t := t) hlt hk)
          have RM := Lib.hid (fun (hk : (nod t n).k ≠ 2) hf => resT_miss (t := t) hlt hk hf)
          have RH := Lib.hid (fun (hk : (nod t n).k ≠ 2) hf => resT_hit (t := t) hlt hk hf)
          obtain ⟨xb, xo, rfl, hxb, hxj⟩ := strs_at I.out.xs (by omega)
          have x0 := hxj i hlt
          have hkk : (nod t n).k = 1 ∨ (nod t n).k = 2 := by
            rcases hkind with h9 | h9 | h9
            · exact absurd h9 K0.out
            · exact .inl h9
            · exact .inr h9
          clear hc hs hes hef hex hxj hkind
          generalize xs.getD i ByteArray.empty = x at *
          change w3.cell? ⟨b, o + n * 8 + 3, none⟩ = some (.slice da (nod t n).dl dc) at h3
          generalize (nod t n).dl = gd at *
          generalize (nod t n).ac.length = ga at *
          generalize (nod t n).xs.length = gx at *
          generalize (nod t n).o = go at *
          generalize (nod t n).q = gq at *
          generalize (nod t n).v = gv at *
          generalize hm : (kids t n).length = m at *
          rcases hkk with hk | hk
          · rw [hk] at h0
            have RM2 := Lib.hid (fun hf => RM.out (by rw [hk]; decide) hf)
            have RH2 := Lib.hid (fun hf => RH.out (by rw [hk]; decide) hf)
            clear hk RM RH RF
            have I4 := Lib.hid (I.out.step ((Below.refl w3.heap.size w3).alloc (Nat.le_refl _) (.cells #[.int .i64 1, .int .i64 go, .slice ea m ec, .slice da gd dc, .slice aa ga acp, .slice ya gx yc, .int .i64 gq, .int .i64 gv] 63)))
            have B4 := Lib.hid ((Below.refl w3.heap.size w3).alloc (Nat.le_refl _) (.cells #[.int .i64 1, .int .i64 go, .slice ea m ec, .slice da gd dc, .slice aa ga acp, .slice ya gx yc, .int .i64 gq, .int .i64 gv] 63))
            cases hf : fndE (kids t n) x with
            | true =>
              obtain ⟨hl9, hi9, hn9, hk9⟩ := HFD.out x hf
              have RE2 := Lib.hid ((RH2.out hf).symm.trans RE.out)
              have FD2 := Lib.hid (FD.out x _ B4.out)
              rw [hf] at FD2
              obtain ⟨be, oe, rfl, hbe, hje⟩ := HEX.out (by omega)
              have e1 := (hje _ hl9).2
              have hlm : lowE (kids t n) x < m := hl9
              clear hje hf HEX hm hl9
              generalize ((kids t n).getD (lowE (kids t n) x) D0).i = ei at *
              generalize lowE (kids t n) x = lo at *
              obtain ⟨n2, rfl⟩ := Int.eq_ofNat_of_zero_le (Int.le_of_lt hi9)
              simp only [Int.toNat_natCast] at hn9 hk9 RE2
              have K9 := Lib.hid hk9
              have loz : (lo : Int) < (m : Int) := by omega
              have lo0 : (0 : Int) ≤ (lo : Int) := Int.natCast_nonneg _
              clear hk9
              go_wp2_with fail
              refine FD2.out.mono ?_
              rintro e W5 ⟨rfl, b5⟩
              have I5 := Lib.hid (I4.out.step b5)
              have s5 := b5.size
              have g2 : W5.cell? ⟨w3.heap.size, 2, none⟩ = some (.slice (some ⟨be, oe, none⟩) m ec) := (b5.cell (p := ⟨w3.heap.size, 2, none⟩) (by simp)).trans (by simp)
              have ge := ((B4.out.trans (b5.mono B4.out.size)).cell (p := ⟨be, oe + lo * 2 + 1, none⟩) hbe).trans e1
              have gl : w3.heap.size < W5.heap.size := by simp at s5; omega
              clear b5 e1 h0 h1 h2 h3 h4 h5 h6 h7 x0 tc tl
              go_wp2_with fail
              go_roundg (xs.length - (i + 1))
              case measure => exact Nat.lt_of_lt_of_le hm9 hg
              case rel => exact ⟨i + 1, n2, by omega, by omega, rfl, by go_num, hn9, K9.out, I5.out, RE2.out⟩
            | false =>
              have RE2 := Lib.hid ((RM2.out hf).symm.trans RE.out)
              have hRR := RE2.out.symm
              subst hRR
              have FD2 := Lib.hid (FD.out x _ B4.out)
              rw [hf] at FD2
              clear hf HEX hm
              generalize lowE (kids t n) x = lo at *
              go_wp2_with fail
              refine FD2.out.mono ?_
              rintro e W5 ⟨rfl, b5⟩
              have I5 := Lib.hid (I4.out.step b5)
              obtain ⟨l9, a0, a1, f0, f1⟩ := I5.out.fb
              clear b5 h0 h1 h2 h3 h4 h5 h6 h7 x0 tc tl
              go_wp2
              exact bodyPost_ret (v := .tuple #[.int .i64 0, faultV 6 i]) (by simp [results, Tryz.results23, faultV, go_sem, a0, a1]) rfl ⟨rfl, (I5.out.b.setCell (by first | omega | (simp; done) | (simp; omega)) _).setCell (by first | omega | (simp; done) | (simp; omega)) _⟩
          · rw [hk] at h0
            have hRR := ((RF.out hk).symm.trans RE.out).symm
            subst hRR
            clear hk RM RH RF
            obtain ⟨l9, a0, a1, f0, f1⟩ := I.out.fb
            go_wp2
            exact bodyPost_ret (v := .tuple #[.int .i64 0, faultV 8 i]) (by simp [results, Tryz.results23, faultV, go_sem, a0, a1, l9]) rfl ⟨rfl, by repeat (first | exact I.out.b | refine Below.setCell ?_ (by first | omega | (simp; done) | (simp; omega)) _ | refine Below.alloc ?_ (by first | omega | (simp; done) | (simp; omega)) _)⟩
        · obtain rfl : i = xs.length := by omega
          have hRR := ((resT_end (t := t) (xs := xs) (n := n)).symm.trans RE.out).symm
          subst hRR
          obtain ⟨l9, a0, a1, f0, f1⟩ := I.out.fb
          go_wp2
          exact bodyPost_ret (v := .tuple #[.int .i64 n, faultV 0 0]) (by simp [results, Tryz.results23, faultV, go_sem, a0, a1]) rfl ⟨rfl, (I.out.b.setCell (by first | omega | (simp; done) | (simp; omega)) _).setCell (by first | omega | (simp; done) | (simp; omega)) _⟩
    · rw [lookF_split hq hs]
      have hbd := splitF_bound (p := p)
      have hs1 : ((splitF p).1 != 0) = true := by simpa using hs
      have hs2 : ((splitF p).1 == 0) = false := by simpa using hs
      clear hq hz hd p4 hs h gm
      generalize splitL p = xs at *
      generalize (splitF p).1 = sq at *
      generalize (splitF p).2 = sr at *
      have hwr : IntKind.i64.wrap (-1 - sr) = -1 - sr := IntWalk.i64_in _ (by omega)
      go_enter Tryz.func23, Tryz.ntmps23
      go_wp2_with fail
      refine (C1.out _ B0.out).mono ?_
      rintro e W1 ⟨rfl, b1⟩
      have F1 := Lib.hid ((F0.out.below b1 F0.out.lt).alloc (.cells #[.int .i64 0, .int .i64 0] 37))
      have B1 := Lib.hid ((B0.out.trans (b1.mono B0.out.size)).alloc (Nat.le_trans B0.out.size b1.size) (.cells #[.int .i64 0, .int .i64 0] 37))
      clear b1
      go_wp2_with fail
      refine (C2.out _ B1.out).mono ?_
      rintro e W2 ⟨v, rfl, _, b2, _⟩
      have F2 := Lib.hid (F1.out.below b2 F1.out.lt)
      have B2 := Lib.hid (B1.out.trans (b2.mono B1.out.size))
      obtain ⟨l9, a0, a1, f0, f1⟩ := F2.out
      have hs2' := B2.out.size
      clear b2 C1 C2
      go_wp2
      go_region
      all_goals
        go_wp2
        exact bodyPost_ret (v := .tuple #[.int .i64 0, faultV sq (-1 - sr)]) (by simp [results, Tryz.results23, faultV, go_sem, a0, a1, l9]) rfl ⟨rfl, by repeat (first | exact B2.out | refine Below.setCell ?_ (by first | omega | (simp; done) | (simp; omega)) _ | refine Below.alloc ?_ (by first | omega | (simp; done) | (simp; omega)) _ | refine Below.drew ?_)⟩
  · rw [lookF_bad hq]
    have hq1 : ((valT t).1 != 0) = true := by simpa using hq
    have hq2 : ((valT t).1 == 0) = false := by simpa using hq
    clear hq h gm C2
    generalize (valT t).1 = q at *
    generalize (valT t).2 = r at *
    go_enter Tryz.func23, Tryz.ntmps23
    go_wp2_with fail
    refine (C1.out _ B0.out).mono ?_
    rintro e W1 ⟨rfl, b1⟩
    have F1 := Lib.hid (F0.out.below b1 F0.out.lt)
    have B1 := Lib.hid (B0.out.trans (b1.mono B0.out.size))
    obtain ⟨l9, a0, a1, f0, f1⟩ := F1.out
    have hs1 := B1.out.size
    clear b1
    go_wp2
    go_region
    all_goals
      go_wp2
      exact bodyPost_ret (v := .tuple #[.int .i64 0, faultV q r]) (by simp [results, Tryz.results23, faultV, go_sem, a0, a1, l9]) rfl ⟨rfl, by repeat (first | exact B1.out | refine Below.setCell ?_ (by first | omega | (simp; done) | (simp; omega)) _ | refine Below.alloc ?_ (by first | omega | (simp; done) | (simp; omega)) _ | refine Below.drew ?_)⟩

end Go.Proofs.YtmbbmmnpkdfecaaGreatDoor

/- Plain facts: which structure stays valid when inodes change and the entries stay. No program. -/

set_option linter.all false
namespace Go.Proofs.YtmbbmmnpkdfecaaGreatDoor
open Go.RowKit

theorem used_same {t t' : Tr} (hl : t'.length = t.length) (hk : ∀ n, (nod t' n).k = (nod t n).k) (i : Int) : used t' i = used t i := by
  unfold used; rw [hl, hk]
theorem used_more {t t' : Tr} (hl : t.length ≤ t'.length) (hk : ∀ n, (nod t n).k ≠ 0 → (nod t' n).k ≠ 0) {i : Int} (h : used t i = true) : used t' i = true := by
  obtain ⟨h1, h2, h3⟩ := used_iff.1 h
  exact used_iff.2 ⟨h1, by omega, hk _ h3⟩
theorem NOk.mono {U U' : Int → Bool} {x : Nod} (h : NOk U x) (hu : ∀ e ∈ x.es, U e.i = true → U' e.i = true) : NOk U' x :=
  ⟨h.free, h.kind, h.o0, h.o7, h.v0, h.v1, h.q0, h.q1, h.dir, h.file, h.dl, h.ac, h.xs, h.len, fun e he => ⟨(h.ent e he).1, (h.ent e he).2.1, hu e he (h.ent e he).2.2⟩, h.srt⟩
theorem rch_same {t t' : Tr} (hk : ∀ n, kids t' n = kids t n) {s n : Nat} {xs : List ByteArray} : Rch t' s xs n ↔ Rch t s xs n :=
  ⟨fun h => h.mono fun m x hx => by rw [← hk]; exact hx, fun h => h.mono fun m x hx => by rw [hk]; exact hx⟩
theorem refs_same {t t' : Tr} (hk : ∀ n, kids t' n = kids t n) (n : Nat) : refs t' n = refs t n := by
  rw [refs_sum (t := t) (L := t.length + t'.length) (by omega), refs_sum (t := t') (L := t.length + t'.length) (by omega)]
  simp only [hk]
theorem Sv.same {t t' : Tr} (h : Sv t) (hl : t'.length = t.length) (hk : ∀ n, kids t' n = kids t n) (hkd : ∀ n, (nod t' n).k = (nod t n).k) (hok : ∀ n, n < t.length → NOk (used t) (nod t' n)) : Sv t' := by
  refine ⟨by rw [hl]; exact h.ne, by rw [hl]; exact h.le, by rw [hkd]; exact h.root, fun n hn => ?_, fun n hn hk1 h0 => ?_, fun n hn hk2 => ?_, fun n hn hk0 => ?_⟩
  · exact (hok n (by omega)).mono fun e _ hu => by rw [used_same hl hkd]; exact hu
  · rw [refs_same hk]; exact h.one n (by omega) (by rw [← hkd]; exact hk1) h0
  · rw [refs_same hk]; exact h.some n (by omega) (by rw [← hkd]; exact hk2)
  · obtain ⟨xs, hx⟩ := h.rch n (by omega) (by rw [← hkd]; exact hk0)
    exact ⟨xs, (rch_same hk).2 hx⟩
theorem far_same {t t' : Tr} (hk : ∀ n, kids t' n = kids t n) : Far t' ↔ Far t := by
  constructor
  · rintro ⟨xs, n, h1, h2⟩; exact ⟨xs, n, (rch_same hk).1 h1, h2⟩
  · rintro ⟨xs, n, h1, h2⟩; exact ⟨xs, n, (rch_same hk).2 h1, h2⟩
/-- An inode with a quota lies in the tree and is used. -/
theorem Sv.quota {t : Tr} (h : Sv t) {n : Nat} (hq : (nod t n).q ≠ 0) : n < t.length ∧ (nod t n).k = 1 := by
  rcases Nat.lt_or_ge n t.length with hl | hl
  · refine ⟨hl, ?_⟩
    rcases (h.ok n hl).kind with h9 | h9 | h9
    · exact absurd ((h.ok n hl).free h9).2.2.2.2.2.1 hq
    · exact h9
    · exact absurd ((h.ok n hl).file (by omega)).2 hq
  · rw [nod_past hl] at hq; exact absurd rfl hq
/-- If whatever lies below a directory lay below it before, and no file grew, no quota is exceeded. -/
theorem over_less {t t' : Tr} (h : Vd t) (h' : Sv t') (hq : ∀ n, (nod t' n).q ≠ 0 → (nod t' n).q = (nod t n).q)
    (hm : ∀ s n xs, (nod t s).k = 1 → Rch t' s xs n → (nod t' n).dl ≠ 0 → (nod t' n).dl ≤ (nod t n).dl ∧ ∃ ys, Rch t s ys n) : ¬ Over t' := by
  rintro ⟨n, hn, h1, h2⟩
  have hqn := hq n h1
  obtain ⟨hl, hk⟩ := h.toSv.quota (n := n) (by rw [← hqn]; exact h1)
  have hk' := (h'.quota h1).2
  have f := h.toSv.from_ hl (by rw [hk]; decide)
  have f' := h'.from_ hn (by rw [hk']; decide)
  have := ug_le f f' (fun m xs hx h0 => hm n m xs hk hx h0)
  refine h.fits ⟨n, hl, by rw [← hqn]; exact h1, ?_⟩
  rw [← hqn]
  have h3 : ((usg t' (visits t' n) : Nat) : Int) ≤ (usg t (visits t n) : Nat) := by exact_mod_cast this
  omega
/-- The way to a directory is one. -/
theorem Sv.uniq {t : Tr} (h : Sv t) {m : Nat} {xs ys : List ByteArray} (hx : Rch t 0 xs m) (hk : (nod t m).k = 1) (hy : Rch t 0 ys m) : xs = ys := h.ok2.uniq hx hk hy
theorem Sv.kid {t : Tr} (h : Sv t) {n : Nat} {e : DE} (he : e ∈ kids t n) : n < t.length ∧ (nod t n).k = 1 ∧ 0 < e.i ∧ e.i.toNat < t.length ∧ (nod t e.i.toNat).k ≠ 0 ∧ vname e.n = true := by
  obtain ⟨k1, k2, k3, k4, k5⟩ := h.ok1.kid he
  refine ⟨?_, k5, k2, k3, k4, k1⟩
  rcases Nat.lt_or_ge n t.length with hl | hl
  · exact hl
  · rw [kids_past hl] at he; cases he
theorem Sv.reach {t : Tr} (h : Sv t) {n : Nat} {xs : List ByteArray} (hx : Rch t 0 xs n) : n < t.length ∧ (nod t n).k ≠ 0 ∧ ∀ x ∈ xs, vname x = true :=
  h.ok1.rch hx h.ne (by rw [h.root]; decide)

end Go.Proofs.YtmbbmmnpkdfecaaGreatDoor

/- A link, a write through it, a read through the first name, and the link taken away again, in plain words. No program. -/

set_option linter.all false
namespace Go.Proofs.YtmbbmmnpkdfecaaGreatDoor
open Go.RowKit

/-! ## One more entry -/
theorem insE_look {es : List DE} {e : DE} (h : SrtE es) (hf : fndE es e.n = false) (x : ByteArray) : lookE (insE es e) x = if x = e.n then e.i else lookE es x := by
  have hs := insE_srt h hf
  have hmem : ∀ y, y ∈ insE es e ↔ y = e ∨ y ∈ es := fun y => by rw [(insE_perm es e).mem_iff, List.mem_cons]
  by_cases hx : x = e.n
  · subst hx
    rw [if_pos rfl]
    exact lookE_mem hs ((hmem e).2 (.inl rfl))
  · rw [if_neg hx]
    cases hq : fndE es x with
    | false =>
      have h2 : fndE (insE es e) x = false := (fnd_none hs).2 fun y hy => by
        rcases (hmem y).1 hy with rfl | hy
        · exact fun e => hx e.symm
        · exact (fnd_none h).1 hq y hy
      unfold lookE; rw [h2, hq]; rfl
    | true =>
      obtain ⟨hl, hn⟩ := fndE_iff.1 hq
      have hm : es.getD (lowE es x) D0 ∈ es := by rw [deD hl]; exact List.getElem_mem hl
      have h1 := lookE_mem h hm
      have h2 := lookE_mem hs ((hmem _).2 (.inr hm))
      rw [hn] at h1 h2
      rw [h1, h2]
theorem delE_insE (es : List DE) (e : DE) : delE (insE es e) e.n = es := by
  have hl : lowE (insE es e) e.n = lowE es e.n := by
    unfold lowE
    rw [(insE_perm es e).countP_eq, List.countP_cons, ltS_irrefl]
    simp
  have hle : lowE es e.n ≤ es.length := List.countP_le_length
  unfold delE
  rw [hl]
  unfold insE
  have ht : (es.take (lowE es e.n)).length = lowE es e.n := by simp; omega
  have e1 : (es.take (lowE es e.n) ++ e :: es.drop (lowE es e.n)).take (lowE es e.n) = es.take (lowE es e.n) := List.take_left' ht
  have e2 : (es.take (lowE es e.n) ++ e :: es.drop (lowE es e.n)).drop (lowE es e.n + 1) = es.drop (lowE es e.n) := by
    rw [← List.drop_drop, List.drop_left' ht]; rfl
  rw [e1, e2, List.take_append_drop]

/-- t' is t but for one more entry (versions and bytes apart). -/
structure Ext (t t' : FT) (m : Nat) (nm : ByteArray) (q : Int) : Prop where
  k : ∀ j, (ino t' j).k = (ino t j).k
  ac : ∀ j, (ino t' j).ac = (ino t j).ac
  o : ∀ j, (ino t' j).o = (ino t j).o
  look : ∀ j x, lookE (ino t' j).es x = if j = m ∧ x = nm then q else lookE (ino t j).es x
  was : lookE (ino t m).es nm = -1
def fixP (m : Nat) (nm : ByteArray) (q : Int) (a : Pl) : Pl := if a.i = -1 ∧ a.p = m ∧ a.n = nm then ⟨m, nm, q⟩ else a
theorem fixP_in {m : Nat} {nm : ByteArray} {q : Int} {a : Pl} (h : a.i ≠ -1) : fixP m nm q a = a := if_neg fun e => h e.1
theorem Ext.alw {t t' : FT} {m : Nat} {nm : ByteArray} {q : Int} (h : Ext t t' m nm q) (n : Nat) (u k : Int) : alw t' n u k = alw t n u k := by
  unfold Go.Proofs.YtmbbmmnpkdfecaaGreatDoor.alw; rw [h.ac, h.o]
theorem Ext.resP {t t' : FT} {m : Nat} {nm : ByteArray} {q : Int} (h : Ext t t' m nm q) (u : Int) : ∀ (xs : List ByteArray) (a b : Pl), resP t u xs a = (b, 0) → resP t' u xs (fixP m nm q a) = (fixP m nm q b, 0)
  | [], a, b, e => by
    unfold Go.Proofs.YtmbbmmnpkdfecaaGreatDoor.resP at e ⊢
    injection e with e _
    rw [e]
  | c :: cs, a, b, e => by
    unfold Go.Proofs.YtmbbmmnpkdfecaaGreatDoor.resP at e
    by_cases h1 : a.i = -1
    · rw [if_pos h1] at e; injection e with _ e; exact absurd e (by decide)
    rw [if_neg h1] at e
    by_cases h2 : (ino t a.i.toNat).k = 2
    · rw [if_pos h2] at e; injection e with _ e; exact absurd e (by decide)
    rw [if_neg h2] at e
    by_cases h3 : Go.Proofs.YtmbbmmnpkdfecaaGreatDoor.alw t a.i.toNat u 4 = false
    · rw [if_pos h3] at e; injection e with _ e; exact absurd e (by decide)
    rw [if_neg h3] at e
    have ih := Ext.resP h u cs _ b e
    rw [fixP_in h1]
    unfold Go.Proofs.YtmbbmmnpkdfecaaGreatDoor.resP
    rw [if_neg h1, h.k, if_neg h2, h.alw, if_neg h3, ← ih, h.look]
    congr 1
    unfold fixP
    by_cases hj : a.i.toNat = m ∧ c = nm
    · rw [if_pos hj]
      rw [if_pos ⟨by rw [hj.1, hj.2]; exact h.was, hj.1, hj.2⟩, hj.1, hj.2]
    · rw [if_neg hj, if_neg (fun hh => hj hh.2)]
/-- A way that is found for user 0 is found without users. -/
theorem resP_resT {t : FT} (h1 : Ok1 (tr t)) : ∀ (xs : List ByteArray) (a b : Pl) (i : Nat), resP t 0 xs a = (b, 0) → b.i ≠ -1 → a.i ≠ -1 → ∃ j, resT (tr t) xs a.i.toNat i = (b.i.toNat, 0, j)
  | [], a, b, i, e, _, _ => by
    unfold resP at e
    injection e with e _
    exact ⟨0, by rw [resT, e]⟩
  | c :: cs, a, b, i, e, hb, ha => by
    unfold resP at e
    rw [if_neg ha] at e
    by_cases h2 : (ino t a.i.toNat).k = 2
    · rw [if_pos h2] at e; injection e with _ e; exact absurd e (by decide)
    rw [if_neg h2] at e
    by_cases h3 : Go.Proofs.YtmbbmmnpkdfecaaGreatDoor.alw t a.i.toNat 0 4 = false
    · rw [if_pos h3] at e; injection e with _ e; exact absurd e (by decide)
    rw [if_neg h3] at e
    have hl : lookE (ino t a.i.toNat).es c ≠ -1 := by
      intro hl
      cases cs with
      | nil => unfold resP at e; injection e with e _; rw [← e] at hb; exact hb hl
      | cons d ds =>
        unfold resP at e
        rw [if_pos (show (Pl.mk a.i.toNat c (lookE (ino t a.i.toNat).es c)).i = -1 from hl)] at e
        injection e with _ e; exact absurd e (by decide)
    obtain ⟨j, hj⟩ := resP_resT h1 cs _ b (i + 1) e hb hl
    have hf : fndE (ino t a.i.toNat).es c = true := by
      cases hf : fndE (ino t a.i.toNat).es c with
      | true => rfl
      | false => unfold lookE at hl; rw [hf] at hl; exact absurd rfl hl
    refine ⟨j, ?_⟩
    rw [resT, if_neg (by rw [nod_tr]; exact h2), if_pos (by rw [kids_tr]; exact hf), kids_tr, ← hj]
    unfold lookE
    rw [if_pos hf]

/-! ## The requests -/
/-- A write at the start, and a removal. -/
def wbq (p : ByteArray) (b : List UInt8) : Rq := ⟨4, 0, p, ByteArray.empty, 0, 0, b, [], A0⟩
def rmq (p : ByteArray) : Rq := ⟨8, 0, p, ByteArray.empty, 0, 0, [], [], A0⟩
theorem wbq_code {p : ByteArray} (hp : pathB p = true) (b : List UInt8) : rqC (wbq p b) = 0 ↔ b.length ≤ 200 := by
  have hkn : knownB (wbq p b).k = true := by show knownB 4 = true; decide
  have hus : usrB (wbq p b).u = true := by show usrB 0 = true; decide
  have hbl : blankB (wo (wbq p b)) = true := by unfold wo; rw [if_neg (show ¬ (wbq p b).k = 3 from by show ¬ (4 : Int) = 3; decide), if_pos (show (wbq p b).k = 4 from rfl)]; rfl
  have hpa : pathB (wbq p b).p = true := hp
  have htw : twoB (wbq p b).k = false := by show twoB 4 = false; decide
  have hof : offB (wbq p b).off = true := by show offB 0 = true; decide
  have hszb : szB (wbq p b).k (wbq p b).sz = true := by show szB 4 0 = true; decide
  constructor
  · intro h; exact (rqG_of h).d
  · intro h
    unfold rqC
    rw [hkn, hus, hbl, hpa, htw, hof, hszb]
    simp only [Bool.true_eq_false, if_false, Bool.false_eq_true, false_and]
    rw [if_neg (show ¬ 200 < (wbq p b).d.length from by show ¬ 200 < b.length; omega), if_neg (show ¬ (valF (wbq p b).ac).1 ≠ 0 from by show ¬ (valF []).1 ≠ 0; decide), if_neg (show ¬ (wbq p b).k = 12 from by show ¬ (4 : Int) = 12; decide)]
theorem rmq_ok {p : ByteArray} (hp : pathB p = true) : rqC (rmq p) = 0 := by
  have hkn : knownB (rmq p).k = true := by show knownB 8 = true; decide
  have hus : usrB (rmq p).u = true := by show usrB 0 = true; decide
  have hbl : blankB (wo (rmq p)) = true := by
    unfold wo
    rw [if_neg (show ¬ (rmq p).k = 3 from by show ¬ (8 : Int) = 3; decide), if_neg (show ¬ (rmq p).k = 4 from by show ¬ (8 : Int) = 4; decide), if_neg (show ¬ ((rmq p).k = 5 ∨ (rmq p).k = 13 ∨ (rmq p).k = 14) from by show ¬ ((8 : Int) = 5 ∨ (8 : Int) = 13 ∨ (8 : Int) = 14); decide), if_neg (show ¬ ((rmq p).k = 9 ∨ (rmq p).k = 10) from by show ¬ ((8 : Int) = 9 ∨ (8 : Int) = 10); decide), if_neg (show ¬ (rmq p).k = 11 from by show ¬ (8 : Int) = 11; decide), if_neg (show ¬ (rmq p).k = 12 from by show ¬ (8 : Int) = 12; decide), if_pos (show 1 ≤ (rmq p).k ∧ (rmq p).k ≤ 14 from by show (1 : Int) ≤ 8 ∧ (8 : Int) ≤ 14; decide)]
    rfl
  have hpa : pathB (rmq p).p = true := hp
  have htw : twoB (rmq p).k = false := by show twoB 8 = false; decide
  have hof : offB (rmq p).off = true := by show offB 0 = true; decide
  have hszb : szB (rmq p).k (rmq p).sz = true := by show szB 8 0 = true; decide
  unfold rqC
  rw [hkn, hus, hbl, hpa, htw, hof, hszb]
  simp only [Bool.true_eq_false, if_false, Bool.false_eq_true, false_and]
  rw [if_neg (show ¬ 200 < (rmq p).d.length from by show ¬ 200 < 0; decide), if_neg (show ¬ (valF (rmq p).ac).1 ≠ 0 from by show ¬ (valF []).1 ≠ 0; decide), if_neg (show ¬ (rmq p).k = 12 from by show ¬ (8 : Int) = 12; decide)]

/-! ## The write -/
/-- A write at the start of a file is answered 0, or there is no space; the paths stay; what was written is read at the start. -/
theorem wbq_at {t : FT} (hv : (valT (tr t)).1 = 0) {p : ByteArray} {n : Nat} (hr : reachF t 0 p 2 2 = ((n : Int), 0)) {b : List UInt8} (hb : b.length ≤ 200) :
    ((applyF t (wbq p b)).2.c = 0 ∨ (applyF t (wbq p b)).2.c = 14) ∧ (∀ q : ByteArray, reachF (applyF t (wbq p b)).1 0 q 2 2 = reachF t 0 q 2 2) ∧
    ((applyF t (wbq p b)).2.c = 0 → readD (ino (applyF t (wbq p b)).1 n).d 0 (b.length : Int) = b) := by
  have vd := vd_of hv
  have sv := vd.toSv
  have hn : n < t.length := by
    have := reach_in sv.ok1 (u := 0) (p := p) (kind := 2) (perm := 2) (by rw [hr])
    rw [hr] at this; simpa using this.2
  have hk2 : (ino t n).k = 2 := by
    unfold reachF at hr
    by_cases h1 : (existF t 0 p).2 ≠ 0
    · rw [if_pos h1] at hr; injection hr with _ h2; exact absurd h2 h1
    · rw [if_neg h1] at hr
      by_cases h2 : (2 : Int) ≠ 0 ∧ 2 ≠ (ino t (existF t 0 p).1.i.toNat).k
      · rw [if_pos h2] at hr; injection hr with _ h3; exact absurd h3 (by decide)
      · rw [if_neg h2] at hr
        split at hr
        · injection hr with _ h3; exact absurd h3 (by decide)
        · injection hr with h3 _
          have h4 := Classical.byContradiction fun h => h2 ⟨by decide, h⟩
          rw [h3, Int.toNat_natCast] at h4
          exact h4.symm
  have hdl : (nod (tr t) n).dl = (ino t n).d.length := by rw [nod_tr]; rfl
  have hd200 : (ino t n).d.length ≤ 200 := by rw [← hdl]; exact (sv.ok1.fine n).dl
  have hs1 : 0 ≤ sizeF ((ino t n).d.length : Int) (wbq p b) ∧ sizeF ((ino t n).d.length : Int) (wbq p b) ≤ 200 := by
    unfold sizeF
    rw [if_neg (show ¬ (wbq p b).k = 5 from by show ¬ (4 : Int) = 5; decide)]
    show 0 ≤ (if b.length = 0 then ((ino t n).d.length : Int) else max ((ino t n).d.length : Int) (0 + (b.length : Int))) ∧ (if b.length = 0 then ((ino t n).d.length : Int) else max ((ino t n).d.length : Int) (0 + (b.length : Int))) ≤ 200
    split <;> omega
  have hfit : (wbq p b).d.length = 0 ∨ (wbq p b).off.toNat + (wbq p b).d.length ≤ (sizeF ((ino t n).d.length : Int) (wbq p b)).toNat :=
    sizeF_fit (by show (0 : Int) ≤ 0; decide) (show ¬ (wbq p b).k = 5 from by show ¬ (4 : Int) = 5; decide) (Int.toNat_of_nonneg hs1.1).symm
  generalize hsz : (sizeF ((ino t n).d.length : Int) (wbq p b)).toNat = s at *
  have hs2 : s ≤ 200 := by omega
  have hch : ∀ x : Ino, x = ino t n → chgF x (wbq p b) = (0, { x with d := dataF x.d (wbq p b) s }) := fun x hx => by
    subst hx; unfold chgF; rw [if_pos (.inl rfl), if_neg (by omega), hsz]
  have hpf : perfF t (wbq p b) = (((n : Int), 0), touchF (chI t n fun x => (chgF x (wbq p b)).2) n) := by
    rw [perfF_at.2.2.2.1 rfl]
    unfold changeF
    show (if (reachF t 0 p 2 2).2 ≠ 0 then _ else _) = _
    rw [hr]
    simp only [Int.toNat_natCast]
    rw [if_neg (by simp), show (wbq p b).u = 0 from rfl, show (wbq p b).p = p from rfl, hr]
    simp only [Int.toNat_natCast]
    rw [hch _ rfl, if_neg (by simp)]
  have hino : ∀ m, ino (touchF (chI t n fun x => (chgF x (wbq p b)).2) n) m = if m = n then tchI { ino t n with d := dataF (ino t n).d (wbq p b) s } else ino t m := fun m => by
    unfold touchF
    rw [ino_chI _ (by rw [chI_len]; exact hn), ino_chI _ hn, if_pos rfl, hch _ rfl]
    by_cases e : m = n
    · rw [if_pos e, if_pos e]
    · rw [if_neg e, if_neg e, ino_chI _ hn, if_neg e]
  generalize ht2 : touchF (chI t n fun x => (chgF x (wbq p b)).2) n = t2 at *
  have hal : Alike t t2 := by
    refine ⟨fun m => ?_, fun m => ?_, fun m => ?_, fun m => ?_⟩ <;> (rw [hino]; by_cases e : m = n) <;> first | (rw [if_pos e, e]; rfl) | rw [if_neg e]
  have hd := data_facts (old := (ino t n).d) hfit
  have hl2 : t2.length = t.length := by rw [← ht2]; unfold touchF; rw [chI_len, chI_len]
  have sv2 : Sv (tr t2) := by
    refine sv.same (by rw [tr_len, tr_len]; exact hl2) (fun m => by rw [kids_tr, kids_tr]; exact hal.es m) (fun m => by rw [nod_tr, nod_tr]; exact hal.k m) (fun m hm => ?_)
    rw [nod_tr, hino]
    have h2 := sv.node m
    rw [nod_tr] at h2
    by_cases e : m = n
    · rw [if_pos e]
      subst e
      have hv0 : 0 ≤ (ino t m).v := h2.v0
      exact ⟨fun h0 => by have h0 : (ino t m).k = 0 := h0; omega, h2.kind, h2.o0, h2.o7, (by show 0 ≤ min ((ino t m).v + 1) 1000000; omega), (by show min ((ino t m).v + 1) 1000000 ≤ 1000000; omega), h2.q0, h2.q1, fun h0 => by have h0 : (ino t m).k = 1 := h0; omega, h2.file, (by show (dataF (ino t m).d (wbq p b) s).length ≤ 200; rw [hd.1]; exact hs2), h2.ac, h2.xs, h2.len, h2.ent, h2.srt⟩
    · rw [if_neg e]; exact h2
  have hfar : ¬ Far (tr t2) := fun hf => vd.near ((far_same fun m => by rw [kids_tr, kids_tr]; exact hal.es m).1 hf)
  have hvc : (valT (tr t2)).1 = 0 ∨ (valT (tr t2)).1 = 14 := by
    by_cases ho : Over (tr t2)
    · exact .inr (sv2.val_over hfar ho)
    · exact .inl (by rw [sv2.val_ok hfar ho])
  unfold applyF
  rw [hpf]
  simp only
  rw [if_neg (by simp)]
  by_cases h3 : (valT (tr t2)).1 ≠ 0
  · rw [if_pos h3]
    refine ⟨.inr ?_, fun _ => rfl, fun h => absurd h h3⟩
    exact hvc.resolve_left h3
  · rw [if_neg h3]
    refine ⟨.inl ?_, fun q => hal.reach 0 q 2 2, fun _ => ?_⟩
    · unfold replyF
      rw [if_neg (show ¬ (wbq p b).k = 3 from by show ¬ (4 : Int) = 3; decide), if_neg (show ¬ (wbq p b).k = 6 from by show ¬ (4 : Int) = 6; decide), if_neg (show ¬ (wbq p b).k = 8 from by show ¬ (4 : Int) = 8; decide)]
    · rw [hino, if_pos rfl]
      exact read_own (old := (ino t n).d) hfit

/-! ## The link and its removal -/
/-- A tree with one more entry for a file. -/
def lnkT (t : FT) (a : Pl) (n : Nat) : FT := touchF (touchF (addF t a.p ⟨a.n, (n : Int)⟩) a.p) n
theorem link_eq {t : FT} {r : Rq} (h1 : Ok1 (tr t)) (hk : r.k = 10) (hu : r.u = 0) (hc : (applyF t r).2.c = 0) : ∃ n : Nat, n < t.length ∧ reachF t 0 r.p 2 0 = ((n : Int), 0) ∧ (vacantF t 0 r.t).2 = 0 ∧
    (valT (tr (lnkT t (vacantF t 0 r.t).1 n))).1 = 0 ∧ applyF t r = (lnkT t (vacantF t 0 r.t).1 n, replyF (lnkT t (vacantF t 0 r.t).1 n) r n) := by
  have hp10 : perfF t r = linkW t r := perfF_at.2.2.2.2.2.2.2.2.2.1 hk
  unfold applyF at hc ⊢
  rw [hp10] at hc ⊢
  unfold linkW at hc ⊢
  rw [hu] at hc ⊢
  by_cases c1 : (reachF t 0 r.p 2 0).2 ≠ 0
  · rw [if_pos c1, if_pos c1] at hc; exact absurd hc c1
  rw [if_neg c1] at hc ⊢
  by_cases c2 : (vacantF t 0 r.t).2 ≠ 0
  · rw [if_pos c2, if_pos c2] at hc; exact absurd hc c2
  rw [if_neg c2] at hc ⊢
  by_cases c3 : (ino t (vacantF t 0 r.t).1.p).es.length = 16
  · rw [if_pos c3, if_pos (show (2 : Int) ≠ 0 by decide)] at hc; exact absurd (show (2 : Int) = 0 from hc) (by decide)
  rw [if_neg c3] at hc ⊢
  obtain ⟨n, hnn, hn⟩ := reach_in' h1 (u := 0) (p := r.p) (kind := 2) (perm := 0) (by simpa using c1)
  rw [hnn] at hc ⊢
  simp only [Int.toNat_natCast] at hc ⊢
  rw [if_neg (show ¬ (0 : Int) ≠ 0 by decide)] at hc ⊢
  change (if (valT (tr (lnkT t (vacantF t 0 r.t).1 n))).1 ≠ 0 then _ else _ : FT × Rp).2.c = 0 at hc
  by_cases c4 : (valT (tr (lnkT t (vacantF t 0 r.t).1 n))).1 ≠ 0
  · rw [if_pos c4] at hc; exact absurd hc c4
  · refine ⟨n, hn, Prod.ext hnn (by simpa using c1), by simpa using c2, by simpa using c4, ?_⟩
    exact if_neg c4
theorem reach_res {t : FT} {u : Int} {p : ByteArray} {kd pm : Int} {n : Nat} (h : reachF t u p kd pm = ((n : Int), 0)) : ∃ b, resolveF t u p = (b, 0) ∧ b.i = (n : Int) ∧ (kd ≠ 0 → (ino t n).k = kd) := by
  unfold reachF at h
  by_cases h1 : (existF t u p).2 ≠ 0
  · rw [if_pos h1] at h; injection h with _ h2; exact absurd h2 h1
  rw [if_neg h1] at h
  by_cases h2 : kd ≠ 0 ∧ kd ≠ (ino t (existF t u p).1.i.toNat).k
  · rw [if_pos h2] at h; injection h with _ h3; exact absurd h3 (by decide)
  rw [if_neg h2] at h
  by_cases h3 : pm ≠ 0 ∧ alw t (existF t u p).1.i.toNat u pm = false
  · rw [if_pos h3] at h; injection h with _ h4; exact absurd h4 (by decide)
  rw [if_neg h3] at h
  injection h with h4 _
  have he : existF t u p = resolveF t u p ∧ (resolveF t u p).2 = 0 := by
    obtain ⟨e1, e2, _⟩ := unless_ok (R := resolveF t u p) (by simpa [existF] using h1)
    exact ⟨e1, e2⟩
  refine ⟨(existF t u p).1, ?_, h4, fun hd => ?_⟩
  · rw [he.1]; exact Prod.ext rfl he.2
  · rw [h4, Int.toNat_natCast] at h2
    exact (Classical.byContradiction fun hh => h2 ⟨hd, fun e => hh e.symm⟩)
theorem reach_of {t : FT} (sv : Sv (tr t)) {p : ByteArray} {b : Pl} {n : Nat} (h : resolveF t 0 p = (b, 0)) (hb : b.i = (n : Int)) (hk : (ino t n).k = 2) : reachF t 0 p 2 2 = ((n : Int), 0) := by
  have he : existF t 0 p = (b, 0) := by
    unfold existF unlessF
    rw [h, if_neg (by rintro ⟨_, e⟩; simp only at e; omega)]
  unfold reachF
  rw [he]
  simp only
  rw [if_neg (by simp), hb, Int.toNat_natCast, if_neg (by rw [hk]; simp), if_neg (by rw [alw_zeroR sv (by decide)]; simp)]
theorem touch_v {t : FT} {n : Nat} (hn : n < t.length) (hk : (ino t n).k ≠ 0) (j : Nat) : ∃ v : Int, ino (touchF t n) j = { ino t j with v := v } ∧ ((ino t j).k = 0 → v = (ino t j).v) := by
  unfold touchF
  rw [ino_chI _ hn]
  by_cases e : j = n
  · subst e; rw [if_pos rfl]; exact ⟨_, rfl, fun h => absurd h hk⟩
  · rw [if_neg e]; exact ⟨_, rfl, fun _ => rfl⟩
theorem link_at {t : FT} {r : Rq} (hv : (valT (tr t)).1 = 0) (hk : r.k = 10) (hu : r.u = 0) (hq : rqC r = 0) (hc : (applyF t r).2.c = 0) : ∃ n : Nat, pathB r.p = true ∧ pathB r.t = true ∧ (applyF t r).2.s.i = (n : Int) ∧
    reachF (applyF t r).1 0 r.t 2 2 = ((n : Int), 0) ∧ reachF (applyF t r).1 0 r.p 2 2 = ((n : Int), 0) ∧ (applyF (applyF t r).1 (rmq r.t)).2.c = 0 ∧
    (lookF (tr (applyF (applyF t r).1 (rmq r.t)).1) r.p).1 = n ∧ (lookF (tr (applyF (applyF t r).1 (rmq r.t)).1) r.p).2.1 = 0 := by
  have G := rqG_of hq
  have vd := vd_of hv
  have sv := vd.toSv
  have h1 := sv.ok1
  have hpt : pathB r.t = true := G.t (by rw [hk]; decide)
  obtain ⟨n, hn, hrp, hvac, hv', hap⟩ := link_eq h1 hk hu hc
  obtain ⟨V, hent⟩ := vacant_at h1 hvac
  obtain ⟨eent, hres2, hname, _⟩ := entry_ok hent
  have hA : (vacantF t 0 r.t).1 = (resolveF t 0 r.t).1 := by rw [vacant_fst, eent]
  have hAi : (vacantF t 0 r.t).1.i = -1 := by
    rw [vacant_fst]
    refine Classical.byContradiction fun hh => ?_
    unfold vacantF at hvac
    rw [if_pos ⟨hent, hh⟩] at hvac
    exact absurd (show (7 : Int) = 0 from hvac) (by decide)
  have hrt : resolveF t 0 r.t = ((vacantF t 0 r.t).1, 0) := Prod.ext hA.symm hres2
  have hAn : (vacantF t 0 r.t).1.n ≠ ByteArray.empty := by rw [hA]; exact hname
  generalize (vacantF t 0 r.t).1 = A at *
  obtain ⟨b, hrb, hbi, hk2⟩ := reach_res hrp
  have hk2 : (ino t n).k = 2 := hk2 (by decide)
  have sv' := (vd_of hv').toSv
  rw [hap]
  simp only
  have hl1 : (addF t A.p ⟨A.n, (n : Int)⟩).length = t.length := addF_len _ _ _
  have hl2 : (lnkT t A n).length = t.length := by unfold lnkT; rw [touchF_len, touchF_len, hl1]
  -- what the inodes are behind the link
  have hadd : ∀ j, ino (addF t A.p ⟨A.n, (n : Int)⟩) j = { ino t j with es := if j = A.p then insE (ino t A.p).es ⟨A.n, (n : Int)⟩ else (ino t j).es } := fun j => by
    unfold addF
    rw [ino_chI _ V.par]
    by_cases e : j = A.p
    · subst e; rw [if_pos rfl, if_pos rfl]
    · rw [if_neg e, if_neg e]
  have hes' : ∀ j, (ino (lnkT t A n) j).es = (ino (addF t A.p ⟨A.n, (n : Int)⟩) j).es := fun j => by
    unfold lnkT touchF
    rw [ino_chI _ (by rw [chI_len, hl1]; exact hn)]
    by_cases e : j = n
    · rw [if_pos e, e]
      show (ino (chI _ A.p tchI) n).es = _
      rw [ino_chI _ (by rw [hl1]; exact V.par)]
      by_cases e2 : n = A.p
      · rw [if_pos e2, e2]; rfl
      · rw [if_neg e2]
    · rw [if_neg e, ino_chI _ (by rw [hl1]; exact V.par)]
      by_cases e2 : j = A.p
      · rw [if_pos e2, e2]; rfl
      · rw [if_neg e2]
  have hdir : (ino t A.p).k = 1 := by
    have hm : (⟨A.n, (n : Int)⟩ : DE) ∈ kids (tr (lnkT t A n)) A.p := by
      rw [kids_tr, hes', hadd]
      simp only
      rw [if_pos trivial]
      exact (insE_perm _ _).mem_iff.2 (List.mem_cons_self ..)
    have h2 := (sv'.kid hm).2.1
    rw [nod_tr] at h2
    have h3 : (ino (lnkT t A n) A.p).k = 1 := h2
    unfold lnkT touchF at h3
    rw [ino_chI _ (by rw [chI_len, hl1]; exact hn)] at h3
    by_cases e : A.p = n
    · rw [if_pos e] at h3
      have h3 : (ino (chI (addF t A.p ⟨A.n, (n : Int)⟩) A.p tchI) n).k = 1 := h3
      rw [ino_chI _ (by rw [hl1]; exact V.par), if_pos e.symm] at h3
      have h3 : (ino (addF t A.p ⟨A.n, (n : Int)⟩) A.p).k = 1 := h3
      rw [hadd] at h3; exact h3
    · rw [if_neg e, ino_chI _ (by rw [hl1]; exact V.par), if_pos rfl] at h3
      have h3 : (ino (addF t A.p ⟨A.n, (n : Int)⟩) A.p).k = 1 := h3
      rw [hadd] at h3; exact h3
  have hi : ∀ j, ∃ v : Int, ino (lnkT t A n) j = { ino t j with es := if j = A.p then insE (ino t A.p).es ⟨A.n, (n : Int)⟩ else (ino t j).es, v := v } ∧ ((ino t j).k = 0 → v = (ino t j).v) := fun j => by
    obtain ⟨v1, e1, f1⟩ := touch_v (t := addF t A.p ⟨A.n, (n : Int)⟩) (n := A.p) (by rw [hl1]; exact V.par) (by rw [hadd]; simp only; omega) j
    obtain ⟨v2, e2, f2⟩ := touch_v (t := touchF (addF t A.p ⟨A.n, (n : Int)⟩) A.p) (n := n) (by rw [touchF_len, hl1]; exact hn) (by
      obtain ⟨v3, e3, _⟩ := touch_v (t := addF t A.p ⟨A.n, (n : Int)⟩) (n := A.p) (by rw [hl1]; exact V.par) (by rw [hadd]; simp only; omega) n
      rw [e3, hadd]; simp only; omega) j
    refine ⟨v2, ?_, fun hz => ?_⟩
    · unfold lnkT; rw [e2, e1, hadd]
    · rw [f2 (by rw [e1, hadd]; exact hz), e1]
      simp only
      rw [f1 (by rw [hadd]; exact hz), hadd]
  have E : Ext t (lnkT t A n) A.p A.n (n : Int) := by
    refine ⟨fun j => ?_, fun j => ?_, fun j => ?_, fun j x => ?_, ?_⟩
    · obtain ⟨v, e, _⟩ := hi j; rw [e]
    · obtain ⟨v, e, _⟩ := hi j; rw [e]
    · obtain ⟨v, e, _⟩ := hi j; rw [e]
    · obtain ⟨v, e, _⟩ := hi j
      rw [e]
      simp only
      by_cases e2 : j = A.p
      · subst e2
        rw [if_pos rfl, insE_look (ok_srt h1 _) V.fnd]
        by_cases e3 : x = A.n
        · rw [if_pos e3, if_pos ⟨rfl, e3⟩]
        · rw [if_neg e3, if_neg (fun h => e3 h.2)]
      · rw [if_neg e2, if_neg (fun h => e2 h.1)]
    · unfold lookE; rw [V.fnd]; rfl
  have hP0 : fixP A.p A.n (n : Int) P0 = P0 := fixP_in (by decide)
  have hfA : fixP A.p A.n (n : Int) A = ⟨A.p, A.n, (n : Int)⟩ := by unfold fixP; rw [if_pos ⟨hAi, rfl, rfl⟩]
  have hrt' : resolveF (lnkT t A n) 0 r.t = (⟨A.p, A.n, (n : Int)⟩, 0) := by
    have := E.resP 0 (splitL r.t) P0 A hrt
    rw [hP0, hfA] at this; exact this
  have hrp' : resolveF (lnkT t A n) 0 r.p = (b, 0) := by
    have := E.resP 0 (splitL r.p) P0 b hrb
    rw [hP0, fixP_in (by omega)] at this; exact this
  have hk2' : (ino (lnkT t A n) n).k = 2 := by rw [E.k]; exact hk2
  have R1 := reach_of sv' hrt' rfl hk2'
  have R2 := reach_of sv' hrp' hbi hk2'
  -- the removal
  have hrem : removeF (lnkT t A n) 0 r.t = (⟨A.p, A.n, (n : Int)⟩, 0) := by
    unfold removeF entryF
    rw [hrt']
    simp only
    rw [if_neg (by simp), if_neg hAn, if_neg (by rw [alw_zeroR sv' (by decide)]; simp)]
    unfold unlessF
    rw [if_neg (by rintro ⟨_, e⟩; simp only at e; omega)]
  have htl : (takF (lnkT t A n) A.p A.n).length = t.length := by rw [takF_len, hl2]
  have htak : ∀ j, ∃ v : Int, ino (takF (lnkT t A n) A.p A.n) j = { ino t j with v := v } ∧ ((ino t j).k = 0 → v = (ino t j).v) := fun j => by
    obtain ⟨v, e, f⟩ := hi j
    unfold takF
    rw [ino_chI _ (by rw [hl2]; exact V.par)]
    by_cases e2 : j = A.p
    · subst e2
      rw [if_pos rfl, e]
      simp only
      rw [if_pos trivial, delE_insE]
      exact ⟨v, rfl, f⟩
    · rw [if_neg e2, e, if_neg e2]
      exact ⟨v, rfl, f⟩
  have hcutI : ∀ j, ∃ v : Int, ino (cutT (lnkT t A n) ⟨A.p, A.n, (n : Int)⟩) j = { ino t j with v := v } ∧ ((ino t j).k = 0 → v = (ino t j).v) := fun j => by
    obtain ⟨v, e, f⟩ := htak j
    obtain ⟨v2, e2, f2⟩ := touch_v (t := takF (lnkT t A n) A.p A.n) (n := A.p) (by rw [htl]; exact V.par) (by obtain ⟨v3, e3, _⟩ := htak A.p; rw [e3]; simp only; omega) j
    refine ⟨v2, ?_, fun hz => ?_⟩
    · show ino (touchF (takF (lnkT t A n) A.p A.n) A.p) j = _
      rw [e2, e]
    · rw [f2 (by rw [e]; exact hz), e]; exact f hz
  have hcl : (cutT (lnkT t A n) ⟨A.p, A.n, (n : Int)⟩).length = t.length := by unfold cutT; rw [touchF_len]; exact htl
  have hrefs : refs (tr (cutT (lnkT t A n) ⟨A.p, A.n, (n : Int)⟩)) n ≠ 0 := by
    rw [refs_same (t := tr t) (fun j => by obtain ⟨v, e, _⟩ := hcutI j; rw [kids_tr, kids_tr, e])]
    exact sv.some n (by rw [tr_len]; exact hn) (by rw [nod_tr]; exact hk2)
  have hyI : ∀ j, ∃ v : Int, ino (touchF (cutT (lnkT t A n) ⟨A.p, A.n, (n : Int)⟩) n) j = { ino t j with v := v } ∧ ((ino t j).k = 0 → v = (ino t j).v) := fun j => by
    obtain ⟨v, e, f⟩ := hcutI j
    obtain ⟨v2, e2, f2⟩ := touch_v (t := cutT (lnkT t A n) ⟨A.p, A.n, (n : Int)⟩) (n := n) (by rw [hcl]; exact hn) (by obtain ⟨v3, e3, _⟩ := hcutI n; rw [e3]; simp only; omega) j
    refine ⟨v2, ?_, fun hz => ?_⟩
    · rw [e2, e]
    · rw [f2 (by rw [e]; exact hz), e]; exact f hz
  have hver : VerOk (touchF (cutT (lnkT t A n) ⟨A.p, A.n, (n : Int)⟩) n) := by
    have h2 := (verOk_of hv').tak (n := A.p) (by rw [hl2]; exact V.par) A.n
    have h3 : VerOk (cutT (lnkT t A n) ⟨A.p, A.n, (n : Int)⟩) := h2.touch (by rw [htl]; exact V.par)
    exact h3.touch (by rw [hcl]; exact hn)
  have hyl : (touchF (cutT (lnkT t A n) ⟨A.p, A.n, (n : Int)⟩) n).length = t.length := by rw [touchF_len]; exact hcl
  have hperf : perfF (lnkT t A n) (rmq r.t) = (((n : Int), 0), touchF (cutT (lnkT t A n) ⟨A.p, A.n, (n : Int)⟩) n) := by
    rw [perfF_at.2.2.2.2.2.2.2.1 rfl]
    unfold rmF
    rw [show (rmq r.t).u = 0 from rfl, show (rmq r.t).p = r.t from rfl, hrem]
    simp only [Int.toNat_natCast]
    have hesn : (ino (lnkT t A n) n).es = [] := by
      have h2 := ((sv'.node n).file (by rw [nod_tr]; show (ino (lnkT t A n) n).k ≠ 1; omega)).1
      rw [nod_tr] at h2; exact h2
    rw [if_neg (by simp), if_neg (by rw [hesn]; simp), if_neg hrefs]
  generalize touchF (cutT (lnkT t A n) ⟨A.p, A.n, (n : Int)⟩) n = y at *
  have hal : Alike t y := ⟨fun j => by obtain ⟨v, e, _⟩ := hyI j; rw [e], fun j => by obtain ⟨v, e, _⟩ := hyI j; rw [e], fun j => by obtain ⟨v, e, _⟩ := hyI j; rw [e], fun j => by obtain ⟨v, e, _⟩ := hyI j; rw [e]⟩
  have hkk : ∀ m, kids (tr y) m = kids (tr t) m := fun m => by rw [kids_tr, kids_tr]; exact hal.es m
  have svy : Sv (tr y) := by
    refine sv.same (by rw [tr_len, tr_len]; exact hyl) hkk (fun m => by rw [nod_tr, nod_tr]; exact hal.k m) (fun m hm => ?_)
    rw [tr_len] at hm
    have h2 := sv.node m
    have hvm := hver m (by rw [hyl]; exact hm)
    obtain ⟨v, e, f⟩ := hyI m
    rw [nod_tr] at h2
    rw [nod_tr]
    rw [e] at hvm ⊢
    exact ⟨fun h0 => by
      obtain ⟨a1, a2, a3, a4, a5, a6, a7⟩ := h2.free h0
      exact ⟨a1, a2, a3, a4, a5, a6, by show v = 0; rw [f h0]; exact a7⟩, h2.kind, h2.o0, h2.o7, hvm.1, hvm.2, h2.q0, h2.q1, h2.dir, h2.file, h2.dl, h2.ac, h2.xs, h2.len, h2.ent, h2.srt⟩
  have hfar : ¬ Far (tr y) := fun hf => vd.near ((far_same hkk).1 hf)
  have hov : ¬ Over (tr y) := over_less vd svy (fun m _ => by rw [nod_tr, nod_tr]; obtain ⟨v, e, _⟩ := hyI m; rw [e]; rfl) fun s m xs _ hr _ => ⟨by rw [nod_tr, nod_tr]; obtain ⟨v, e, _⟩ := hyI m; rw [e]; exact Nat.le_refl _, xs, (rch_same hkk).1 hr⟩
  have hvy : (valT (tr y)).1 = 0 := by rw [svy.val_ok hfar hov]
  have hapy : applyF (lnkT t A n) (rmq r.t) = (y, Rp0) := by
    unfold applyF
    rw [hperf]
    simp only
    rw [if_neg (by simp), if_neg (by rw [hvy]; simp)]
    rfl
  rw [hapy]
  simp only
  have hry : resP y 0 (splitL r.p) P0 = (b, 0) := by rw [hal.resP]; exact hrb
  obtain ⟨j, hj⟩ := resP_resT svy.ok1 (splitL r.p) P0 b 0 hry (by omega) (by decide)
  have hsp : (splitF r.p).1 = 0 := splitF_of.1 G.p
  have hbn : b.i.toNat = n := by omega
  rw [hbn] at hj
  have hj : resT (tr y) (splitL r.p) 0 0 = (n, 0, j) := hj
  refine ⟨n, G.p, hpt, ?_, R1, R2, trivial, ?_, ?_⟩
  · unfold replyF
    rw [if_neg (by omega), if_neg (by omega), if_neg (by omega)]
    rfl
  · rw [lookF_res hvy hsp, hj]
  · rw [lookF_res hvy hsp, hj]
end Go.Proofs.YtmbbmmnpkdfecaaGreatDoor

/- A rename, and a rename back: the tree is as before but for versions. In plain words. No program. -/

set_option linter.all false
namespace Go.Proofs.YtmbbmmnpkdfecaaGreatDoor
open Go.RowKit

/-! ## Ways, one step at a time -/
theorem resP_inv {t : FT} {u : Int} : ∀ (xs : List ByteArray) (x : ByteArray) (a b : Pl), resP t u (xs ++ [x]) a = (b, 0) → ∃ c, resP t u xs a = (c, 0) ∧ c.i ≠ -1 ∧ (ino t c.i.toNat).k ≠ 2 ∧ ¬ alw t c.i.toNat u 4 = false ∧ b = ⟨c.i.toNat, x, lookE (ino t c.i.toNat).es x⟩
  | [], x, a, b, e => by
    rw [List.nil_append] at e
    unfold resP at e
    by_cases h1 : a.i = -1
    · rw [if_pos h1] at e; injection e with _ e; exact absurd e (by decide)
    rw [if_neg h1] at e
    by_cases h2 : (ino t a.i.toNat).k = 2
    · rw [if_pos h2] at e; injection e with _ e; exact absurd e (by decide)
    rw [if_neg h2] at e
    by_cases h3 : Go.Proofs.YtmbbmmnpkdfecaaGreatDoor.alw t a.i.toNat u 4 = false
    · rw [if_pos h3] at e; injection e with _ e; exact absurd e (by decide)
    rw [if_neg h3] at e
    unfold resP at e
    injection e with e _
    exact ⟨a, by unfold resP; rfl, h1, h2, h3, e.symm⟩
  | y :: ys, x, a, b, e => by
    rw [List.cons_append] at e
    unfold resP at e
    by_cases h1 : a.i = -1
    · rw [if_pos h1] at e; injection e with _ e; exact absurd e (by decide)
    rw [if_neg h1] at e
    by_cases h2 : (ino t a.i.toNat).k = 2
    · rw [if_pos h2] at e; injection e with _ e; exact absurd e (by decide)
    rw [if_neg h2] at e
    by_cases h3 : Go.Proofs.YtmbbmmnpkdfecaaGreatDoor.alw t a.i.toNat u 4 = false
    · rw [if_pos h3] at e; injection e with _ e; exact absurd e (by decide)
    rw [if_neg h3] at e
    obtain ⟨c, hc, r⟩ := resP_inv ys x _ b e
    exact ⟨c, by unfold resP; rw [if_neg h1, if_neg h2, if_neg h3]; exact hc, r⟩
theorem resP_mk {t : FT} {u : Int} : ∀ (xs : List ByteArray) (x : ByteArray) (a c : Pl), resP t u xs a = (c, 0) → c.i ≠ -1 → (ino t c.i.toNat).k ≠ 2 → ¬ alw t c.i.toNat u 4 = false → resP t u (xs ++ [x]) a = (⟨c.i.toNat, x, lookE (ino t c.i.toNat).es x⟩, 0)
  | [], x, a, c, e, h1, h2, h3 => by
    unfold resP at e
    injection e with e _
    subst e
    rw [List.nil_append]
    unfold resP
    rw [if_neg h1, if_neg h2, if_neg h3]
    unfold resP
    rfl
  | y :: ys, x, a, c, e, h1, h2, h3 => by
    rw [List.cons_append]
    unfold resP at e ⊢
    by_cases g1 : a.i = -1
    · rw [if_pos g1] at e; injection e with _ e; exact absurd e (by decide)
    rw [if_neg g1] at e ⊢
    by_cases g2 : (ino t a.i.toNat).k = 2
    · rw [if_pos g2] at e; injection e with _ e; exact absurd e (by decide)
    rw [if_neg g2] at e ⊢
    by_cases g3 : Go.Proofs.YtmbbmmnpkdfecaaGreatDoor.alw t a.i.toNat u 4 = false
    · rw [if_pos g3] at e; injection e with _ e; exact absurd e (by decide)
    rw [if_neg g3] at e ⊢
    exact resP_mk ys x _ c e h1 h2 h3
theorem snoc_cases (xs : List ByteArray) : xs = [] ∨ ∃ ys x, xs = ys ++ [x] := by
  rcases List.eq_nil_or_concat xs with h | ⟨ys, x, h⟩
  · exact .inl h
  · exact .inr ⟨ys, x, by rw [h]; simp⟩
theorem look_kid {es : List DE} {x : ByteArray} (h : lookE es x ≠ -1) : ∃ e ∈ es, e.n = x ∧ e.i = lookE es x := by
  have hf : fndE es x = true := by
    cases hf : fndE es x with
    | true => rfl
    | false => unfold lookE at h; rw [hf] at h; exact absurd rfl h
  obtain ⟨h1, h2⟩ := fndE_iff.1 hf
  exact ⟨_, deD_mem h1, h2, by unfold lookE; rw [if_pos hf]⟩
theorem resP_rch {t : FT} : ∀ (n : Nat) (xs : List ByteArray) (b : Pl), xs.length = n → resP t 0 xs P0 = (b, 0) → b.i ≠ -1 → Rch (tr t) 0 xs b.i.toNat := by
  intro n
  induction n with
  | zero =>
    intro xs b hl e _
    have : xs = [] := List.eq_nil_of_length_eq_zero hl
    subst this
    unfold resP at e
    injection e with e _
    rw [← e]
    exact Rch.nil
  | succ n ih =>
    intro xs b hl e hb
    rcases snoc_cases xs with rfl | ⟨ys, x, rfl⟩
    · cases hl
    obtain ⟨c, hc, h1, _, _, rfl⟩ := resP_inv ys x P0 b e
    have hy := ih ys c (by simpa using hl) hc h1
    obtain ⟨d, hd, hn, hi⟩ := look_kid hb
    have := hy.snoc (e := d) (by rw [kids_tr]; exact hd)
    rw [hn, hi] at this
    exact this
theorem resP_keep {t t' : FT} (hk : ∀ j, (ino t' j).k = (ino t j).k) (ha : ∀ j, alw t' j 0 4 = alw t j 0 4) (L : List ByteArray)
    (H : ∀ ys x c, ys ++ [x] <+: L → resP t 0 ys P0 = (c, 0) → c.i ≠ -1 → lookE (ino t c.i.toNat).es x ≠ -1 → lookE (ino t' c.i.toNat).es x = lookE (ino t c.i.toNat).es x) :
    ∀ (n : Nat) (xs : List ByteArray) (b : Pl), xs.length = n → xs <+: L → resP t 0 xs P0 = (b, 0) → b.i ≠ -1 → resP t' 0 xs P0 = (b, 0) := by
  intro n
  induction n with
  | zero =>
    intro xs b hl _ e _
    have : xs = [] := List.eq_nil_of_length_eq_zero hl
    subst this
    unfold resP at e ⊢
    exact e
  | succ n ih =>
    intro xs b hl hp e hb
    rcases snoc_cases xs with rfl | ⟨ys, x, rfl⟩
    · cases hl
    obtain ⟨c, hc, h1, h2, h3, rfl⟩ := resP_inv ys x P0 b e
    have hy := ih ys c (by simpa using hl) ((List.prefix_append ys [x]).trans hp) hc h1
    have := resP_mk (t := t') ys x P0 c hy h1 (by rw [hk]; exact h2) (by rw [ha]; exact h3)
    rw [this, H ys x c hp hc h1 hb]
theorem resP_pre {t : FT} : ∀ (n : Nat) (zs ws : List ByteArray) (b : Pl), ws.length = n → resP t 0 (zs ++ ws) P0 = (b, 0) → b.i ≠ -1 → ∃ b', resP t 0 zs P0 = (b', 0) ∧ b'.i ≠ -1 := by
  intro n
  induction n with
  | zero =>
    intro zs ws b hl e hb
    have : ws = [] := List.eq_nil_of_length_eq_zero hl
    subst this
    rw [List.append_nil] at e
    exact ⟨b, e, hb⟩
  | succ n ih =>
    intro zs ws b hl e hb
    rcases snoc_cases ws with rfl | ⟨ys, x, rfl⟩
    · cases hl
    rw [← List.append_assoc] at e
    obtain ⟨c, hc, h1, _⟩ := resP_inv (zs ++ ys) x P0 b e
    exact ih zs ys c (by simpa using hl) hc h1

/-! ## One entry less, and put back -/
theorem delE_look {es : List DE} {nm : ByteArray} (h : SrtE es) (hf : fndE es nm = true) (x : ByteArray) : lookE (delE es nm) x = if x = nm then -1 else lookE es x := by
  have hs := delE_srt h nm
  have hmem : ∀ y, y ∈ es ↔ y = es.getD (lowE es nm) D0 ∨ y ∈ delE es nm := fun y => by rw [(delE_perm hf).mem_iff, List.mem_cons]
  have hname := (fndE_iff.1 hf).2
  by_cases hx : x = nm
  · subst hx
    rw [if_pos rfl]
    unfold lookE
    rw [delE_fnd h]; rfl
  · rw [if_neg hx]
    cases hq : fndE es x with
    | false =>
      have h2 : fndE (delE es nm) x = false := (fnd_none hs).2 fun y hy => (fnd_none h).1 hq y ((hmem y).2 (.inr hy))
      unfold lookE; rw [h2, hq]; rfl
    | true =>
      obtain ⟨hl, hn⟩ := fndE_iff.1 hq
      have hm : es.getD (lowE es x) D0 ∈ es := deD_mem hl
      have hm2 : es.getD (lowE es x) D0 ∈ delE es nm := by
        rcases (hmem _).1 hm with e | e
        · exact absurd (by rw [← hn, e, hname]) hx
        · exact e
      have h1 := lookE_mem h hm
      have h2 := lookE_mem hs hm2
      rw [hn] at h1 h2
      rw [h1, h2]
theorem insE_delE {es : List DE} {nm : ByteArray} (hf : fndE es nm = true) : insE (delE es nm) ⟨nm, lookE es nm⟩ = es := by
  obtain ⟨hl, hn⟩ := fndE_iff.1 hf
  have he : (⟨nm, lookE es nm⟩ : DE) = es.getD (lowE es nm) D0 := by
    unfold lookE
    rw [if_pos hf]
    generalize es.getD (lowE es nm) D0 = d at hn
    subst hn
    rfl
  have hlow : lowE (delE es nm) nm = lowE es nm := by
    have : lowE es nm = lowE (es.getD (lowE es nm) D0 :: delE es nm) nm := (delE_perm hf).countP_eq _
    rw [this]
    unfold lowE
    rw [List.countP_cons, show (es.getD (es.countP fun a => ltS a.n nm) D0).n = nm from hn, ltS_irrefl]
    simp
  unfold insE
  rw [show (⟨nm, lookE es nm⟩ : DE).n = nm from rfl, hlow, he]
  unfold delE
  have ht : (es.take (lowE es nm)).length = lowE es nm := by simp; omega
  rw [List.take_left' ht, List.drop_left' ht, deD hl, ← List.drop_eq_getElem_cons hl, List.take_append_drop]
end Go.Proofs.YtmbbmmnpkdfecaaGreatDoor
