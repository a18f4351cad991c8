/- The law XattrDiffMatchesSpec returns true at every two lists. Conditions: the slices' cells lie in memory as they read. -/
import Derived.Test.YtgbmbhcoelijfaaAttrLawDiff0
import Derived.Test.YtgbmbhcoelijfaaAttrRefNames
import Derived.Test.YtgbmbhcoelijfaaAttrRefSet
namespace Go.Proofs.Ytgbmbhcoelijfaa
open Go.RowKit

theorem cellg {w w' : World} {row : Option Nat} (hg : w.grownBy w' row) {p : Addr} {u : Value} (hc : w.cell? p = some u) (hp : p.block < w.heap.size) (hn : some p.block ≠ row) : w'.cell? p = some u :=
  (World.cell?_of_block (a := p) (hg.block p.block hp hn)).trans hc

set_option maxRecDepth 100000 in
set_option maxHeartbeats 4000000 in
theorem lawDiff_any (v1 : Value) (a : List Attr) (v2 : Value) (b : List Attr) (w : World) (h1 : Ats w w.heap.size v1 a) (h2 : Ats w w.heap.size v2 b) :
    Calls Try.prog 6 #[v1, v2] w fun e w' => e = .returned (.bool true) ∧ Below w.heap.size w w' := by
  have C1 := Lib.hid (diff_any v1 v2 a b w h1 h2)
  have CA := Lib.hid (fun W (hb : Below w.heap.size w W) => refValidate_any v1 a W (h1.up hb))
  have CB := Lib.hid (fun W (hb : Below w.heap.size w W) => refValidate_any v2 b W (h2.up hb))
  have CD := Lib.hid (fun W (v : Value) (h : Ats W W.heap.size v [⟨bA, bB⟩]) => diffOne_any v W h)
  have H1 := Lib.hid h1
  have H2 := Lib.hid h2
  obtain ⟨a1, c1, rfl, hc1⟩ := h1.form rfl
  obtain ⟨a2, c2, rfl, hc2⟩ := h2.form rfl
  clear h1 h2
  unfold valAV faultV at CA CB
  unfold DiffPost faultV at C1
  unfold OneDiff at CD
  by_cases hv : (valA a).1 = 0
  rotate_left
  · have hf : chkF [a, b] = ((valA a).1, ((0 : Nat) : Int)) := chk_hit (k := 0) (by simp) rfl hv (fun j hj => absurd hj (by omega))
    have HF := Lib.hid hf
    have HO := Lib.hid (show diffO a b = [] by unfold diffO; rw [hf, if_neg hv])
    clear hf
    generalize (valA a).1 = d at *
    generalize (valA a).2 = i at *
    have hd1 : (d != 0) = true := by simpa using hv
    have hd2 : (d == 0) = false := by simpa using hv
    clear hv
    go_enter Try.func6, Try.ntmps6
    go_wp2_with fail
    refine C1.out.mono ?_
    rintro e w1 ⟨v1, rfl, A1, b1⟩
    rw [HF.out]
    rw [HO.out] at A1
    obtain ⟨am, cm, rfl, _⟩ := A1.form rfl
    have s1 := b1.size
    go_wp2_with fail
    refine (CA.out _ ((b1.alloc s1 _).alloc (by first | omega | (simp; done) | (simp; omega)) _)).mono ?_
    rintro e w2 ⟨rfl, b2⟩
    have X2 := ((FBox.new w1 d 0 24).alloc (.cells #[.int .i64 0, .int .i64 0] 24)).below b2 (by first | omega | (simp; done) | (simp; omega))
    have Y2 := ((FBox.new (w1.alloc (.cells #[.int .i64 d, .int .i64 0] 24)) 0 0 24).below b2 (by first | omega | (simp; done) | (simp; omega))).at_ (n' := w1.heap.size + 1) (by simp)
    have A2 := ((A1.alloc (Nat.le_refl _) (.cells #[.int .i64 d, .int .i64 0] 24)).alloc (by first | omega | (simp; done) | (simp; omega)) (.cells #[.int .i64 0, .int .i64 0] 24)).below (b2.mono (by first | omega | (simp; done) | (simp; omega)))
    have B2 : Below w.heap.size w w2 := ((b1.alloc s1 _).alloc (by first | omega | (simp; done) | (simp; omega)) _).trans (b2.mono (by first | omega | (simp; done) | (simp; omega)))
    have s2 := B2.size
    have l2 := Y2.lt
    clear b1 b2 A1
    generalize hn1 : w1.heap.size = n1 at *
    generalize hn2 : n1 + 1 = n2 at *
    have q12 : n1 < n2 := by omega
    clear hn1 hn2
    have XW := X2.alloc (.cells #[.int .i64 d, .int .i64 i] 24)
    have YW := Y2.alloc (.cells #[.int .i64 d, .int .i64 i] 24)
    have BW : Below w.heap.size w (w2.alloc (.cells #[.int .i64 d, .int .i64 i] 24)) := B2.alloc s2 _
    go_wp2_with fail
    refine (newFault_any _ _ _).mono ?_
    rintro e w4 ⟨rfl, b4⟩
    have X4 := XW.below b4 XW.lt
    have Y4 := YW.below b4 YW.lt
    have B4 : Below w.heap.size w w4 := BW.trans (b4.mono BW.size)
    have s4 := B4.size
    have l4 := Y4.lt
    clear b4 X2 Y2 B2 A2 XW YW BW
    obtain ⟨_, y0, y1, yf0, yf1⟩ := Y4
    go_wp2_with fail
    refine (CD.out _ _ ((ats_one _ _ (by first | omega | (simp; done) | (simp; omega)) ⟨bA, bB⟩ ⟨bA_fits, bB_fits⟩ _).more (by first | omega | (simp; done) | (simp; omega)))).mono ?_
    rintro e w5 ⟨a5, c5, rfl, b5⟩
    have hne : n1 ≠ n2 := by omega
    have X5 := (((X4.far (p := ⟨n2, 0, none⟩) hne (.int .i64 d)).far (p := ⟨n2, 1, none⟩) hne (.int .i64 0)).alloc (.cells #[.string bA, .string bB] 27)).below b5 (by first | omega | (simp; done) | (simp; omega))
    have Y5 := ((FBox.put ⟨l4, y0, y1, yf0, yf1⟩ d 0).alloc (.cells #[.string bA, .string bB] 27)).below b5 (by first | omega | (simp; done) | (simp; omega))
    have B5 : Below w.heap.size w w5 := (((B4.setCell (by first | omega | (simp; done) | (simp; omega)) _).setCell (by first | omega | (simp; done) | (simp; omega)) _).alloc (by first | omega | (simp; done) | (simp; omega)) _).trans (b5.mono (by first | omega | (simp; done) | (simp; omega)))
    have s5 := B5.size
    have l5 := Y5.lt
    clear b5 X4 y0 y1 yf0 yf1 B4
    obtain ⟨_, x0, x1, _, _⟩ := X5
    obtain ⟨_, y0, y1, _, _⟩ := Y5
    go_wp2
    go_ret
    refine ⟨by first | rfl | simp, ?_⟩
    repeat (first | exact B5 | refine below_drewN ?_ _ | refine Below.alloc ?_ (by first | omega | (simp; done) | (simp; omega)) _)
  by_cases hk : (valA b).1 = 0
  rotate_left
  · have hz := valA_00 hv
    have hf : chkF [a, b] = ((valA b).1, ((1 : Nat) : Int)) := chk_hit (k := 1) (by simp) rfl hk (fun j hj => by
      obtain rfl : j = 0 := by omega
      exact hv)
    have HF := Lib.hid hf
    have HO := Lib.hid (show diffO a b = [] by unfold diffO; rw [hf, if_neg hk])
    clear hf
    rw [hz] at CA
    generalize (valA b).1 = d at *
    generalize (valA b).2 = i at *
    have hd1 : (d != 0) = true := by simpa using hk
    have hd2 : (d == 0) = false := by simpa using hk
    clear hv hk hz
    go_enter Try.func6, Try.ntmps6
    go_wp2_with fail
    refine C1.out.mono ?_
    rintro e w1 ⟨v1, rfl, A1, b1⟩
    rw [HF.out]
    rw [HO.out] at A1
    obtain ⟨am, cm, rfl, _⟩ := A1.form rfl
    have s1 := b1.size
    go_wp2_with fail
    refine (CA.out _ ((b1.alloc s1 _).alloc (by first | omega | (simp; done) | (simp; omega)) _)).mono ?_
    rintro e w2 ⟨rfl, b2⟩
    have X2 := ((FBox.new w1 d 1 24).alloc (.cells #[.int .i64 0, .int .i64 0] 24)).below b2 (by first | omega | (simp; done) | (simp; omega))
    have Y2 := ((FBox.new (w1.alloc (.cells #[.int .i64 d, .int .i64 1] 24)) 0 0 24).below b2 (by first | omega | (simp; done) | (simp; omega))).at_ (n' := w1.heap.size + 1) (by simp)
    have A2 := ((A1.alloc (Nat.le_refl _) (.cells #[.int .i64 d, .int .i64 1] 24)).alloc (by first | omega | (simp; done) | (simp; omega)) (.cells #[.int .i64 0, .int .i64 0] 24)).below (b2.mono (by first | omega | (simp; done) | (simp; omega)))
    have B2 : Below w.heap.size w w2 := ((b1.alloc s1 _).alloc (by first | omega | (simp; done) | (simp; omega)) _).trans (b2.mono (by first | omega | (simp; done) | (simp; omega)))
    have s2 := B2.size
    have l2 := Y2.lt
    clear b1 b2 A1
    generalize hn1 : w1.heap.size = n1 at *
    generalize hn2 : n1 + 1 = n2 at *
    have q12 : n1 < n2 := by omega
    clear hn1 hn2
    go_wp2_with fail
    refine (CB.out _ (B2.alloc s2 _)).mono ?_
    rintro e w3 ⟨rfl, b3⟩
    have X3 := (X2.alloc (.cells #[.int .i64 0, .int .i64 0] 24)).below b3 (by first | omega | (simp; done) | (simp; omega))
    have Y3 := (Y2.alloc (.cells #[.int .i64 0, .int .i64 0] 24)).below b3 (by first | omega | (simp; done) | (simp; omega))
    have A3 := (A2.alloc (by first | omega | (simp; done) | (simp; omega)) (.cells #[.int .i64 0, .int .i64 0] 24)).below (b3.mono (by first | omega | (simp; done) | (simp; omega)))
    have B3 : Below w.heap.size w w3 := (B2.alloc s2 _).trans (b3.mono (by first | omega | (simp; done) | (simp; omega)))
    have s3 := B3.size
    have l3 := Y3.lt
    clear b3 X2 Y2 A2 B2
    have XW := X3.alloc (.cells #[.int .i64 d, .int .i64 i] 24)
    have YW := Y3.alloc (.cells #[.int .i64 d, .int .i64 i] 24)
    have BW : Below w.heap.size w (w3.alloc (.cells #[.int .i64 d, .int .i64 i] 24)) := B3.alloc s3 _
    go_wp2_with fail
    refine (newFault_any _ _ _).mono ?_
    rintro e w4 ⟨rfl, b4⟩
    have X4 := XW.below b4 XW.lt
    have Y4 := YW.below b4 YW.lt
    have B4 : Below w.heap.size w w4 := BW.trans (b4.mono BW.size)
    have s4 := B4.size
    have l4 := Y4.lt
    clear b4 X3 Y3 B3 A3 XW YW BW
    obtain ⟨_, y0, y1, yf0, yf1⟩ := Y4
    go_wp2_with fail
    refine (CD.out _ _ ((ats_one _ _ (by first | omega | (simp; done) | (simp; omega)) ⟨bA, bB⟩ ⟨bA_fits, bB_fits⟩ _).more (by first | omega | (simp; done) | (simp; omega)))).mono ?_
    rintro e w5 ⟨a5, c5, rfl, b5⟩
    have hne : n1 ≠ n2 := by omega
    have X5 := (((X4.far (p := ⟨n2, 0, none⟩) hne (.int .i64 d)).far (p := ⟨n2, 1, none⟩) hne (.int .i64 1)).alloc (.cells #[.string bA, .string bB] 27)).below b5 (by first | omega | (simp; done) | (simp; omega))
    have Y5 := ((FBox.put ⟨l4, y0, y1, yf0, yf1⟩ d 1).alloc (.cells #[.string bA, .string bB] 27)).below b5 (by first | omega | (simp; done) | (simp; omega))
    have B5 : Below w.heap.size w w5 := (((B4.setCell (by first | omega | (simp; done) | (simp; omega)) _).setCell (by first | omega | (simp; done) | (simp; omega)) _).alloc (by first | omega | (simp; done) | (simp; omega)) _).trans (b5.mono (by first | omega | (simp; done) | (simp; omega)))
    have s5 := B5.size
    have l5 := Y5.lt
    clear b5 X4 y0 y1 yf0 yf1 B4
    obtain ⟨_, x0, x1, _, _⟩ := X5
    obtain ⟨_, y0, y1, _, _⟩ := Y5
    go_wp2
    go_ret
    refine ⟨by first | rfl | simp, ?_⟩
    repeat (first | exact B5 | refine below_drewN ?_ _ | refine Below.alloc ?_ (by first | omega | (simp; done) | (simp; omega)) _)
  have ga := good_of hv
  have gb := good_of hk
  have hf : chkF [a, b] = (0, 0) := chk_miss fun j hj => by
    match j, hj with
    | 0, _ => exact hv
    | 1, _ => exact hk
  have HF := Lib.hid hf
  have HO := Lib.hid (show diffO a b = diffL a b by unfold diffO; rw [hf, if_pos rfl])
  have hflat : a ++ b ++ [] = [a, b].flatten := by simp
  have htot : (a ++ b ++ []).length ≤ 1000 := by have := ga.len; have := gb.len; simp; omega
  have CN := Lib.hid (fun W (hb : Below w.heap.size w W) => by
    have := refNames_any _ _ (.slice none 0 0) a b [] W (H1.out.up hb) (H2.out.up hb) (Ats.none_ _ _) (by omega)
    rwa [hflat] at this)
  unfold NamesPost at CN
  have HVA := Lib.hid (fun W nm (hb : Below w.heap.size w W) => attrValue_any _ a nm W _ (H1.out.up hb))
  have HVB := Lib.hid (fun W nm (hb : Below w.heap.size w W) => attrValue_any _ b nm W _ (H2.out.up hb))
  have hnl := names_len [a, b].flatten
  have hNF := names_fits (L := [a, b].flatten) (fun e he => by
    simp at he
    rcases he with he | he
    · exact H1.out.fits e he
    · exact H2.out.fits e he)
  have HDL := Lib.hid (show diffL a b = diffK a b (namesB [a, b].flatten) (namesB [a, b].flatten).length from rfl)
  rw [hflat] at htot
  generalize namesB [a, b].flatten = N at *
  have HNF := Lib.hid hNF
  have hN6 : N.length ≤ 1000 := by omega
  have e1 := valA_00 hv
  have e2 := valA_00 hk
  rw [e1] at CA
  rw [e2] at CB
  clear ga gb hf hflat htot hnl hNF hv hk e1 e2
  go_enter Try.func6, Try.ntmps6
  go_wp2_with fail
  refine C1.out.mono ?_
  rintro e w1 ⟨v1, rfl, A1, b1⟩
  rw [HF.out]
  rw [HO.out] at A1
  obtain ⟨am, cm, rfl, _⟩ := A1.form rfl
  have s1 := b1.size
  go_wp2_with fail
  refine (CA.out _ ((b1.alloc s1 _).alloc (by first | omega | (simp; done) | (simp; omega)) _)).mono ?_
  rintro e w2 ⟨rfl, b2⟩
  have X2 := ((FBox.new w1 0 0 24).alloc (.cells #[.int .i64 0, .int .i64 0] 24)).below b2 (by first | omega | (simp; done) | (simp; omega))
  have Y2 := ((FBox.new (w1.alloc (.cells #[.int .i64 0, .int .i64 0] 24)) 0 0 24).below b2 (by first | omega | (simp; done) | (simp; omega))).at_ (n' := w1.heap.size + 1) (by simp)
  have A2 := ((A1.alloc (Nat.le_refl _) (.cells #[.int .i64 0, .int .i64 0] 24)).alloc (by first | omega | (simp; done) | (simp; omega)) (.cells #[.int .i64 0, .int .i64 0] 24)).below (b2.mono (by first | omega | (simp; done) | (simp; omega)))
  have B2 : Below w.heap.size w w2 := ((b1.alloc s1 _).alloc (by first | omega | (simp; done) | (simp; omega)) _).trans (b2.mono (by first | omega | (simp; done) | (simp; omega)))
  have s2 := B2.size
  have l2 := Y2.lt
  clear b1 b2 A1
  generalize hn1 : w1.heap.size = n1 at *
  generalize hn2 : n1 + 1 = n2 at *
  have q12 : n1 < n2 := by omega
  clear hn1 hn2
  go_wp2_with fail
  refine (CB.out _ (B2.alloc s2 _)).mono ?_
  rintro e w3 ⟨rfl, b3⟩
  have X3 := (X2.alloc (.cells #[.int .i64 0, .int .i64 0] 24)).below b3 (by first | omega | (simp; done) | (simp; omega))
  have Y3 := (Y2.alloc (.cells #[.int .i64 0, .int .i64 0] 24)).below b3 (by first | omega | (simp; done) | (simp; omega))
  have A3 := (A2.alloc (by first | omega | (simp; done) | (simp; omega)) (.cells #[.int .i64 0, .int .i64 0] 24)).below (b3.mono (by first | omega | (simp; done) | (simp; omega)))
  have B3 : Below w.heap.size w w3 := (B2.alloc s2 _).trans (b3.mono (by first | omega | (simp; done) | (simp; omega)))
  have s3 := B3.size
  have l3 := Y3.lt
  clear b3 X2 Y2 A2 B2
  go_wp2_with fail
  refine (CD.out _ _ ((ats_one _ _ (by first | omega | (simp; done) | (simp; omega)) ⟨bA, bB⟩ ⟨bA_fits, bB_fits⟩ _).more (by first | omega | (simp; done) | (simp; omega)))).mono ?_
  rintro e w5 ⟨a5, c5, rfl, b5⟩
  have X5 := ((X3.alloc (.cells #[.int .i64 0, .int .i64 0] 24)).alloc (.cells #[.string bA, .string bB] 27)).below b5 (by first | omega | (simp; done) | (simp; omega))
  have Y5 := ((Y3.alloc (.cells #[.int .i64 0, .int .i64 0] 24)).alloc (.cells #[.string bA, .string bB] 27)).below b5 (by first | omega | (simp; done) | (simp; omega))
  have A5 := ((A3.alloc (by first | omega | (simp; done) | (simp; omega)) (.cells #[.int .i64 0, .int .i64 0] 24)).alloc (by first | omega | (simp; done) | (simp; omega)) (.cells #[.string bA, .string bB] 27)).below (b5.mono (by first | omega | (simp; done) | (simp; omega)))
  have B5 : Below w.heap.size w w5 := ((B3.alloc s3 _).alloc (by first | omega | (simp; done) | (simp; omega)) _).trans (b5.mono (by first | omega | (simp; done) | (simp; omega)))
  have s5 := B5.size
  have l5 := Y5.lt
  clear b5 X3 Y3 A3 B3
  have y0 := Y5.c0
  go_wp2_with fail
  refine (CN.out _ (B5.alloc s5 _)).mono ?_
  rintro e w6 ⟨vN, rfl, S6, b6⟩
  obtain ⟨aN, cN, rfl, _⟩ := S6.form rfl
  have X6 := Lib.hid ((X5.alloc (.cells #[.int .i64 0, .int .i64 0] 24)).below b6 (by first | omega | (simp; done) | (simp; omega)))
  have Y6 := Lib.hid ((Y5.alloc (.cells #[.int .i64 0, .int .i64 0] 24)).below b6 (by first | omega | (simp; done) | (simp; omega)))
  have A6 := Lib.hid ((A5.alloc (by first | omega | (simp; done) | (simp; omega)) (.cells #[.int .i64 0, .int .i64 0] 24)).below (b6.mono (by first | omega | (simp; done) | (simp; omega))))
  have B6 := Lib.hid ((B5.alloc s5 (.cells #[.int .i64 0, .int .i64 0] 24)).trans (b6.mono (by first | omega | (simp; done) | (simp; omega))))
  have S6' := Lib.hid S6
  have s6 := B6.out.size
  have l6 := Y6.out.lt
  have q6 : n1 < w6.heap.size := by omega
  clear b6 X5 Y5 A5 B5 S6 y0 CA CB CD C1 CN
  go_wp2_with fail
  go_loopg [13, 14] N.length (fun gg s13 s14 wr => ∃ k : Nat, k ≤ N.length ∧ N.length - k ≤ gg ∧ s14 = .int .i64 k ∧ Aside (wr.ownsRow w6.heap.size 27 2 s13 (diffK a b N k).length (flatA (diffK a b N k))) ∧ Aside (Below w6.heap.size w6 wr))
  case atStart => exact ⟨0, by omega, by omega, rfl, ⟨rfl, .inl ⟨rfl, rfl⟩⟩, Below.refl _ _⟩
  case round =>
    obtain ⟨k, hk, hg, rfl, O, BW⟩ := hrel
    have hs2 := BW.out.size
    by_cases hlt : k < N.length
    · have hltz : (k : Int) < (N.length : Int) := by omega
      have hk0 : (0 : Int) ≤ (k : Int) := Int.natCast_nonneg _
      obtain ⟨bn, o, rfl, hb, hj⟩ := S6'.out.spot (by omega)
      have hbr : bn < wr.heap.size := by omega
      have g0 := (BW.out.cell (p := ⟨bn, o + k, none⟩) hb).trans (hj k hlt)
      clear hj
      have HS := Lib.hid (diffK_succ (a := a) (b := b) hlt)
      have hKL := diffK_len a b N k hk
      generalize N.getD k ByteArray.empty = nm at *
      have hbw := B6.out.trans (BW.out.mono s6)
      obtain ⟨u1, hu1⟩ : ∃ u, u = Value.slice a1 a.length c1 := ⟨_, rfl⟩
      obtain ⟨u2, hu2⟩ : ∃ u, u = Value.slice a2 b.length c2 := ⟨_, rfl⟩
      have HU1 := Lib.hid hu1
      have HU2 := Lib.hid hu2
      have HVA2 := Lib.hid (fun W (hb : Below w.heap.size w W) => by have := HVA.out W nm hb; rwa [← hu1] at this)
      have HVB2 := Lib.hid (fun W (hb : Below w.heap.size w W) => by have := HVB.out W nm hb; rwa [← hu2] at this)
      clear hu1 hu2
      have HD1 := Lib.hid (show dif1 a b nm = if getA b nm = getA a nm then [] else [⟨nm, getA b nm⟩] from rfl)
      generalize getA a nm = ga at *
      generalize hgb : getA b nm = gb at *
      have HGB := Lib.hid hgb
      clear hgb
      by_cases hne : gb = ga
      · subst hne
        rw [if_pos rfl] at HD1
        have hb1 : (gb.toList == gb.toList) = true := by simp
        go_wp2_with fail
        go_quiet (first | (go_at_call 14; rw [← HU1.out]; refine (HVA2.out _ (below_drewN hbw _)).mono ?_; rintro e _ ⟨rfl, rfl⟩; exact ⟨rfl, _, rfl⟩) | (go_at_call 14; rw [← HU2.out]; refine (HVB2.out _ (below_drewN hbw _)).mono ?_; rintro e _ ⟨rfl, rfl⟩; exact ⟨rfl, _, rfl⟩))
        have IN := Lib.hid (show (wr.drewN nq).ownsRow w6.heap.size 27 2 u13 (diffK a b N (k + 1)).length (flatA (diffK a b N (k + 1))) by
          rw [HS.out, HD1.out, List.append_nil]; exact O.out)
        have B7 := Lib.hid (below_drewN BW.out nq)
        go_wp2
        go_roundg (N.length - (k + 1))
        case measure => omega
        case rel => exact ⟨k + 1, by omega, by omega, by go_num, IN.out, B7.out⟩
      · rw [if_neg hne] at HD1
        have hb1 : (ga.toList == gb.toList) = false := by rw [beq_str]; simpa using fun e => hne e.symm
        clear hne
        go_wp2_with fail
        go_quiet (first | (go_at_call 14; rw [← HU1.out]; refine (HVA2.out _ (below_drewN hbw _)).mono ?_; rintro e _ ⟨rfl, rfl⟩; exact ⟨rfl, _, rfl⟩) | (go_at_call 14; rw [← HU2.out]; refine (HVB2.out _ (below_drewN hbw _)).mono ?_; rintro e _ ⟨rfl, rfl⟩; exact ⟨rfl, _, rfl⟩))
        have O7 := Lib.hid (show (wr.drewN nq).ownsRow w6.heap.size 27 2 u13 (diffK a b N k).length (flatA (diffK a b N k)) from O.out)
        have B7 := Lib.hid (below_drewN BW.out nq)
        have hbw7 := below_drewN hbw nq
        have g7 : (wr.drewN nq).cell? ⟨bn, o + k, none⟩ = some (.string nm) := g0
        have hbr7 : bn < (wr.drewN nq).heap.size := hbr
        have hs7 : w6.heap.size ≤ (wr.drewN nq).heap.size := hs2
        clear hbw g0
        generalize wr.drewN nq = w7 at *
        clear nq
        have LT := Lib.hid O7.out.lt
        have hna : ∀ g, u13.ownBlock = some g → w6.heap.size ≤ g := fun g hg => (LT.out g hg).1
        have HNA := Lib.hid hna
        have OWa := Lib.hid (own_below O7.out (((Below.refl w7.heap.size w7).drew).alloc (Nat.le_refl _) (.cells #[.string nm, .string gb] 27)))
        have HVB3 := Lib.hid (fun W (hb : Below w.heap.size w W) => by have := HVB.out W nm hb; rwa [HGB.out] at this)
        have hq0 : (w7.drew.alloc (.cells #[.string nm, .string gb] 27)).cell? ⟨w7.heap.size, 0, none⟩ = some (.string nm) := by
          have := (AB.new w7.drew nm gb 27).c0; exact this
        have hq1 : (w7.drew.alloc (.cells #[.string nm, .string gb] 27)).cell? ⟨w7.heap.size, 1, none⟩ = some (.string gb) := by
          have := (AB.new w7.drew nm gb 27).c1; exact this
        have HQ0 := Lib.hid hq0
        have HQ1 := Lib.hid hq1
        clear hna hq0 hq1
        go_wp2_with fail
        go_region_held3 (fun w' => w'.cell? ⟨bn, o + k, none⟩ = some (.string nm))
          (first | go_keep | exact g7 | exact j0)
          (first | (go_at_call 14; refine (HVB3.out _ hbw7.drew).mono ?_; rintro e _ ⟨rfl, rfl⟩) | (refine step_append_attrs (by rfl) (.tmp 85) (.tmp 97) (by rfl) w6.heap.size u13 _ (diffK a b N k) (by simp [Act.eval]) OWa.out w7.heap.size ⟨nm, gb⟩ (by simp [Act.eval]) HQ0.out HQ1.out (by omega) (by first | omega | (simp; done) | (simp; omega)) ?_; intro v8 w8 hown8 hg8; have j0 : w8.cell? ⟨bn, o + k, none⟩ = some (.string nm) := cellg hg8 (by have h9 := ((Below.refl w7.heap.size w7).drew.alloc (Nat.le_refl _) (.cells #[.string nm, .string gb] 27)).cell (p := ⟨bn, o + k, none⟩) hbr7; exact h9.trans g7) (by first | omega | (simp; done) | (simp; omega)) (fun e => by have h9 := HNA.out bn e.symm; omega)) | fail)
        all_goals
          have IN := Lib.hid (show w8.ownsRow w6.heap.size 27 2 v8 (diffK a b N (k + 1)).length (flatA (diffK a b N (k + 1))) by
            rw [HS.out, HD1.out, List.length_append]; exact hown8)
          have B8 := Lib.hid (((B7.out.alloc hs7 (.cells #[.string nm, .string gb] 27)).drew).grown hg8 (by first | omega | (simp; done) | (simp; omega)) (fun g hg => HNA.out g hg))
          clear hown8 hg8 j0 g7
          go_wp2
          go_roundg (N.length - (k + 1))
          case measure => omega
          case rel => exact ⟨k + 1, by omega, by omega, by go_num, IN.out, B8.out⟩
    · have hltz : ¬ (k : Int) < (N.length : Int) := by omega
      obtain rfl : k = N.length := by omega
      have hO := O.out
      rw [← HDL.out] at hO
      have hfit : ∀ e ∈ diffL a b, e.fits := by rw [HDL.out]; exact diffK_fits H2.out.fits HNF.out _
      have hlen : (diffL a b).length ≤ 4398046511104 := by rw [HDL.out]; have := diffK_len a b N N.length (Nat.le_refl _); omega
      have HW := Lib.hid (ats_own hO hfit hlen)
      have HM := Lib.hid (A6.out.below (BW.out.mono (by omega)))
      have hbw := B6.out.trans (BW.out.mono s6)
      obtain ⟨aw, cw, rfl, _⟩ := HW.out.form rfl
      obtain ⟨_, x0, x1, _, _⟩ := X6.out.below BW.out q6
      obtain ⟨_, y0, y1, _, _⟩ := Y6.out.below BW.out l6
      have hn1r : n1 < wr.heap.size := by omega
      have hn2r : n2 < wr.heap.size := by omega
      clear hO hfit hlen O
      go_wp2_with fail
      refine (attrsSame_any _ _ (diffL a b) _ _ _ HM.out HW.out).mono ?_
      rintro e w9 ⟨rfl, q, rfl⟩
      go_wp2
      go_ret
      refine ⟨by first | rfl | simp, ?_⟩
      repeat (first | exact hbw | refine below_drewN ?_ _ | refine Below.alloc ?_ (by first | omega | (simp; done) | (simp; omega)) _)

end Go.Proofs.Ytgbmbhcoelijfaa
