/- What a law of package memfs or of its neighbours needs, at the translation of this seat.
   Condition: as each theorem states; this text: HlCounts. -/
import Derived.Test.YtmbbmmnpkdfecaaGreatDoorMb9
import Derived.Test.YtmbbmmnpkdfecaaGreatDoorMb13

set_option linter.all false

/- hardlink.Counts at every tree: the fault of the tree, or how many entries refer to each inode. Conditions: the tree's cells lie in memory as they read. -/

set_option linter.all false
namespace Go.Proofs.YtmbbmmnpkdfecaaGreatDoor
open Go.RowKit

/-- What holds while hardlink.Counts counts. -/
structure HInv (w wr : World) (t : Tr) (a : Option Addr) (c pt R i k : Nat) : Prop where
  b : Below w.heap.size w wr
  tb : One wr pt (.slice a t.length c)
  row : Row wr R t.length (fun j => .int .i64 (cntE (upto t i k) j : Nat))
theorem HInv.step {w wr z : World} {t : Tr} {a : Option Addr} {c pt R i k : Nat} (h : HInv w wr t a c pt R i k) (hb : Below wr.heap.size wr z) : HInv w z t a c pt R i k :=
  ⟨h.b.trans (hb.mono h.b.size), h.tb.below hb h.tb.lt, h.row.below hb h.row.lt⟩
theorem HInv.cnt {w wr : World} {t : Tr} {a : Option Addr} {c pt R i k : Nat} (h : HInv w wr t a c pt R i k) (hw : w.heap.size ≤ R) (h1 : R ≠ pt) {x : ByteArray} {m : Nat} (hk : k < (kids t i).length) (he : (kids t i).getD k D0 = ⟨x, (m : Int)⟩) (hm : m < t.length) {u : Int} (hu : u = (cntE (upto t i k) m : Nat) + 1) :
    HInv w (wr.setCell ⟨R, m, none⟩ (.int .i64 u)) t a c pt R i (k + 1) := by
  refine ⟨h.b.setCell hw _, h.tb.far (by simpa using h1.symm) _, (h.row.put hm _).ext fun j hj => ?_⟩
  rw [upto_succ hk, cntE_snoc, he]
  simp only
  by_cases e : j = m
  · subst e; rw [if_pos rfl, if_pos rfl, hu]; congr 1
  · rw [if_neg e, if_neg (by omega)]; congr 1

/-- What hardlink.Counts returns: the fault, or a new row of the numbers of names. -/
def CountsPost (t : Tr) (w : World) (e : Ending) (w' : World) : Prop :=
  ((valT t).1 ≠ 0 ∧ e = .returned (.tuple #[.slice none 0 0, faultV (valT t).1 (valT t).2]) ∧ Below w.heap.size w w') ∨
    ((valT t).1 = 0 ∧ ∃ R, w.heap.size ≤ R ∧ e = .returned (.tuple #[.slice (some ⟨R, 0, none⟩) t.length t.length, faultV 0 0]) ∧ Row w' R t.length (fun j => .int .i64 (refs t j : Nat)) ∧ Below w.heap.size w w')

set_option maxRecDepth 100000 in
set_option maxHeartbeats 3200000 in
theorem counts_any (a : Option Addr) (c : Nat) (t : Tr) (w : World) (h : Nods w w.heap.size a c t) :
    Calls Tryz.prog 26 #[.agg #[.slice a t.length c]] w (CountsPost t w) := by
  have C1 := Lib.hid (fun W (hb : Below w.heap.size w W) => validT_any a c t W (h.up hb))
  have T0 := Lib.hid (show One ((w.alloc (.cells #[.slice a t.length c] 24)).alloc (.cells #[.int .i64 0, .int .i64 0] 37)) w.heap.size (.slice a t.length c) from (One.new w _ _).alloc _)
  have F0 := Lib.hid (show FBox ((w.alloc (.cells #[.slice a t.length c] 24)).alloc (.cells #[.int .i64 0, .int .i64 0] 37)) (w.heap.size + 1) 0 0 from (FBox.new (w.alloc _) 0 0 _).at_ (by simp))
  have B0 := Lib.hid (show Below w.heap.size w ((w.alloc (.cells #[.slice a t.length c] 24)).alloc (.cells #[.int .i64 0, .int .i64 0] 37)) from ((Below.refl _ _).alloc (Nat.le_refl _) _).alloc (by first | omega | (simp; done) | (simp; omega)) _)
  unfold CountsPost
  by_cases hq : (valT t).1 = 0
  · obtain ⟨hd, p4⟩ := valT_ok hq
    have hz := valT_zero hq
    have H1 := Lib.hid (Pass.ok1 hd (p4.mono (by omega)))
    have HQ := Lib.hid hq
    have H := Lib.hid h
    have hmk := make_ints t.length H1.out.le
    have h40 := H1.out.le
    rw [hz] at C1
    clear hd p4 hq hz h
    unfold faultV at C1
    go_enter Tryz.func26, Tryz.ntmps26
    go_wp2_with fail
    refine (C1.out _ B0.out).mono ?_
    rintro e W1 ⟨rfl, b1⟩
    have T1 := Lib.hid ((T0.out.below b1 T0.out.lt).alloc (.cells #[.int .i64 0, .int .i64 0] 37))
    have F1 := Lib.hid (F0.out.below b1 F0.out.lt)
    have B1 := Lib.hid (B0.out.trans (b1.mono B0.out.size))
    have tc := (T0.out.below b1 T0.out.lt).c0
    have tl := (T0.out.below b1 T0.out.lt).lt
    clear b1
    have R1 := Lib.hid (show HInv w ((W1.alloc (.cells #[.int .i64 0, .int .i64 0] 37)).alloc (.cells (madeCells #[.int .i64 0] t.length) 3)) t a c w.heap.size (W1.heap.size + 1) 0 0 from
      ⟨(B1.out.alloc B1.out.size _).alloc (by have := B1.out.size; simp; omega) _, T1.out.alloc _, ((row_new (W1.alloc _) t.length (.int .i64 0) _).at_ (by simp)).ext (fun j _ => by rw [upto_zero]; rfl)⟩)
    have FR := Lib.hid ((F1.out.alloc (.cells #[.int .i64 0, .int .i64 0] 37)).alloc (.cells (madeCells #[.int .i64 0] t.length) 3))
    have hRw : w.heap.size + 1 < W1.heap.size + 1 := by have := F1.out.lt; omega
    have tc2 := T1.out.c0
    have tl2 := T1.out.lt
    go_wp2_with fail
    generalize hR : W1.heap.size + 1 = R at *
    generalize hW2 : (W1.alloc (.cells #[.int .i64 0, .int .i64 0] 37)).alloc (.cells (madeCells #[.int .i64 0] t.length) 3) = W2 at *
    clear T1 F1 B1 tc tl tc2 tl2 C1 T0 F0 B0 hW2
    go_loopg [7, 9, 23] t.length (fun gg _ _ s23 wr => ∃ i : Nat, i ≤ t.length ∧ t.length - i ≤ gg ∧ s23 = .int .i64 i ∧ Aside (HInv w wr t a c w.heap.size R i 0) ∧ Aside (FBox wr (w.heap.size + 1) 0 0))
    case atStart => exact ⟨0, by omega, by omega, rfl, R1.out, FR.out⟩
    case round =>
      obtain ⟨i, hi, hg, rfl, I, FI⟩ := hrel
      clear R1 FR
      obtain ⟨w2, rfl⟩ : ∃ w2 : World, w2 = wr := ⟨_, rfl⟩
      by_cases hlt : i < t.length
      · have hltz : (i : Int) < (t.length : Int) := by omega
        have hm9 : t.length - (i + 1) < t.length - i := Nat.sub_lt_sub_left hlt (Nat.lt_succ_self i)
        obtain ⟨b, o, ve, vd, va, vx, rfl, hb, hc, hs⟩ := (H.out.below I.out.b).one hlt
        obtain ⟨ea, ec, rfl, hec, hel, hef, hex⟩ := hs.es
        obtain ⟨da, dc, rfl, _⟩ := hs.dl
        obtain ⟨aa, acp, rfl, _⟩ := hs.ac
        obtain ⟨xa, xc, rfl, _⟩ := hs.xs
        have h0 := hc.c0
        have h1 := hc.c1
        have h2 := hc.c2
        have h3 := hc.c3
        have h4 := hc.c4
        have h5 := hc.c5
        have h6 := hc.c6
        have h7 := hc.c7
        change (kids t i).length ≤ ec at hec
        change (kids t i).length ≤ 35184372088832 at hel
        change w2.cell? ⟨b, o + i * 8 + 2, none⟩ = some (.slice ea (kids t i).length ec) at h2
        have HEX := Lib.hid (show 0 < (kids t i).length → ∃ b o, ea = some ⟨b, o, none⟩ ∧ b < w.heap.size ∧ ∀ j, j < (kids t i).length →
          w2.cell? ⟨b, o + j * 2, none⟩ = some (.string ((kids t i).getD j D0).n) ∧ w2.cell? ⟨b, o + j * 2 + 1, none⟩ = some (.int .i64 ((kids t i).getD j D0).i) from hex)
        have HKD := Lib.hid (fun k (hk : k < (kids t i).length) => H1.out.kid (show (kids t i).getD k D0 ∈ kids t i from by rw [deD hk]; exact List.getElem_mem hk))
        have HCL := Lib.hid (fun k q => cnt_le H1.out i k q hi)
        have HUN := Lib.hid (upto_next hlt)
        clear hc hs hef hex
        have hbs := I.out.b.size
        generalize hm : (kids t i).length = m at *
        generalize (nod t i).k = gk at *
        generalize (nod t i).o = go at *
        generalize (nod t i).dl = gd at *
        generalize (nod t i).ac.length = ga at *
        generalize (nod t i).xs.length = gx at *
        generalize (nod t i).q = gq at *
        generalize (nod t i).v = gv at *
        have I1 := Lib.hid (I.out.step ((Below.refl w2.heap.size w2).alloc (Nat.le_refl _) (.cells #[.int .i64 gk, .int .i64 go, .slice ea m ec, .slice da gd dc, .slice aa ga acp, .slice xa gx xc, .int .i64 gq, .int .i64 gv] 63)))
        have F1 := Lib.hid (FI.out.alloc (.cells #[.int .i64 gk, .int .i64 go, .slice ea m ec, .slice da gd dc, .slice aa ga acp, .slice xa gx xc, .int .i64 gq, .int .i64 gv] 63))
        have W1 := Lib.hid ((Below.refl w2.heap.size w2).alloc (Nat.le_refl _) (.cells #[.int .i64 gk, .int .i64 go, .slice ea m ec, .slice da gd dc, .slice aa ga acp, .slice xa gx xc, .int .i64 gq, .int .i64 gv] 63))
        go_wp2_with fail
        go_loopg [9, 30] m (fun gg _ s30 wq => ∃ k : Nat, k ≤ m ∧ m - k ≤ gg ∧ s30 = .int .i64 k ∧ Aside (Below w.heap.size w2 wq) ∧ Aside (HInv w wq t (some ⟨b, o, none⟩) c w.heap.size R i k) ∧ Aside (FBox wq (w.heap.size + 1) 0 0))
        case atStart => exact ⟨0, by omega, by omega, rfl, W1.out.mono hbs, I1.out, F1.out⟩
        case round =>
          obtain ⟨k, hk, hg2, rfl, WQ, IQ, FQ⟩ := hrel
          clear I1 W1 F1
          by_cases hlk : k < m
          · have hlkz : (k : Int) < (m : Int) := by omega
            obtain ⟨be, oe, rfl, hbe, hje⟩ := HEX.out (by omega)
            have g0 := (WQ.out.cell (p := ⟨be, oe + k * 2, none⟩) hbe).trans (hje k hlk).1
            have g1 := (WQ.out.cell (p := ⟨be, oe + k * 2 + 1, none⟩) hbe).trans (hje k hlk).2
            have hkd := HKD.out k hlk
            have q2 := hkd.2.1
            have q3 := hkd.2.2.1
            clear hkd
            have hcb := fun q => HCL.out k q
            clear hje
            generalize hy : (kids t i).getD k D0 = e at *
            obtain ⟨x, ei⟩ := e
            simp only at g0 g1 q2 q3
            obtain ⟨n2, rfl⟩ := Int.eq_ofNat_of_zero_le (Int.le_of_lt q2)
            simp only [Int.toNat_natCast] at q3
            have Y := Lib.hid hy
            clear hy q2
            have IX := Lib.hid (IQ.out.step ((Below.refl wr.heap.size wr).alloc (Nat.le_refl _) (.cells #[.string x, .int .i64 (n2 : Int)] 93)))
            have hcq := hcb n2
            have rc := IX.out.row.c n2 q3
            have rz := IX.out.row.fz n2
            have rl := IX.out.row.lt
            clear hcb
            generalize hq : cntE (upto t i k) n2 = q at *
            have HQ2 := Lib.hid hq
            clear hq
            have n2z : (n2 : Int) < (t.length : Int) := by omega
            have n20 : (0 : Int) ≤ (n2 : Int) := Int.natCast_nonneg _
            go_wp2
            go_roundg (m - (k + 1))
            case measure => omega
            case rel =>
              refine ⟨k + 1, by omega, by omega, by go_num, ?_, IX.out.cnt (by omega) (by omega) (by omega) Y.out q3 (by rw [HQ2.out]), ?_⟩
              · exact (show Below w.heap.size w2 _ from ((WQ.out.alloc (Nat.le_trans hbs WQ.out.size) _).setCell (by first | omega | (simp; done) | (simp; omega)) _))
              · exact (FQ.out.alloc _).far (by simp; omega) _
          · obtain rfl : k = m := by omega
            have IE := Lib.hid (show HInv w wr t (some ⟨b, o, none⟩) c w.heap.size R (i + 1) 0 from ⟨IQ.out.b, IQ.out.tb, by rw [← HUN.out]; exact IQ.out.row⟩)
            go_wp2
            go_roundg (t.length - (i + 1))
            case measure => exact Nat.lt_of_lt_of_le hm9 hg
            case rel => exact ⟨i + 1, by omega, by omega, by go_num, IE.out, FQ.out⟩
      · obtain rfl : i = t.length := by omega
        obtain ⟨l9, a0, a1, f0, f1⟩ := FI.out
        go_wp2
        exact bodyPost_ret (v := .tuple #[.slice (some ⟨R, 0, none⟩) t.length t.length, faultV 0 0]) (by simp [results, Tryz.results26, faultV, go_sem, a0, a1, l9]) rfl (.inr ⟨HQ.out, R, by omega, rfl, ((I.out.row.far (by simp; omega) _).far (by simp; omega) _).ext (fun j _ => by rw [upto_all]), (I.out.b.setCell (by simp) _).setCell (by simp) _⟩)
  · have hq1 : ((valT t).1 != 0) = true := by simpa using hq
    have hq2 : ((valT t).1 == 0) = false := by simpa using hq
    have HQ := Lib.hid hq
    clear h hq
    unfold faultV at C1
    generalize (valT t).1 = q at *
    generalize (valT t).2 = r at *
    go_enter Tryz.func26, Tryz.ntmps26
    go_wp2_with fail
    refine (C1.out _ B0.out).mono ?_
    rintro e W1 ⟨rfl, b1⟩
    have F1 := Lib.hid (F0.out.below b1 F0.out.lt)
    have B1 := Lib.hid (B0.out.trans (b1.mono B0.out.size))
    obtain ⟨l9, a0, a1, f0, f1⟩ := F1.out
    have hs1 := B1.out.size
    clear b1
    go_wp2
    go_region
    go_wp2
    exact bodyPost_ret (v := .tuple #[.slice none 0 0, faultV q r]) (by simp [results, Tryz.results26, faultV, go_sem, a0, a1, l9]) rfl (.inl ⟨HQ.out, rfl, by repeat (first | exact B1.out | refine Below.setCell ?_ (by first | omega | (simp; done) | (simp; omega)) _ | refine Below.alloc ?_ (by first | omega | (simp; done) | (simp; omega)) _ | refine Below.drew ?_)⟩)

end Go.Proofs.YtmbbmmnpkdfecaaGreatDoor
