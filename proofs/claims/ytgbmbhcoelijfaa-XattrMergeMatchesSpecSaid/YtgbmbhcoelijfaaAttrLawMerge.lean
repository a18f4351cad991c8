/- The law XattrMergeMatchesSpec returns true at every three lists. Conditions: the slices' cells lie in memory as they read; each list holds no more attributes than an argument can. -/
import Derived.Test.YtgbmbhcoelijfaaAttrLawMerge0
import Derived.Test.YtgbmbhcoelijfaaAttrRefNames
import Derived.Test.YtgbmbhcoelijfaaAttrRefSet
namespace Go.Proofs.Ytgbmbhcoelijfaa
open Go.RowKit

theorem cellg {w w' : World} {row : Option Nat} (hg : w.grownBy w' row) {p : Addr} {u : Value} (hc : w.cell? p = some u) (hp : p.block < w.heap.size) (hn : some p.block ≠ row) : w'.cell? p = some u :=
  (World.cell?_of_block (a := p) (hg.block p.block hp hn)).trans hc

set_option maxRecDepth 100000 in
set_option maxHeartbeats 8000000 in
theorem lawMerge_any (v0 : Value) (o : List Attr) (v1 : Value) (a : List Attr) (v2 : Value) (b : List Attr) (w : World) (h0 : Ats w w.heap.size v0 o) (g0 : o.length ≤ 4398046510976) (h1 : Ats w w.heap.size v1 a) (g1 : a.length ≤ 4398046510976) (h2 : Ats w w.heap.size v2 b) (g2 : b.length ≤ 4398046510976) :
    Calls Try.prog 7 #[v0, v1, v2] w fun e w' => e = .returned (.bool true) ∧ Below w.heap.size w w' := by
  have C1 := Lib.hid (merge_any v0 o v1 a v2 b w h0 h1 h2)
  have CO := Lib.hid (fun W (hb : Below w.heap.size w W) => refValidate_any v0 o W (h0.up hb))
  have CA := Lib.hid (fun W (hb : Below w.heap.size w W) => refValidate_any v1 a W (h1.up hb))
  have CB := Lib.hid (fun W (hb : Below w.heap.size w W) => refValidate_any v2 b W (h2.up hb))
  have CM := Lib.hid (fun W (v : Value) (h : Ats W W.heap.size v [⟨bA, bB⟩]) => mergeOne_any v W h)
  have hflat : o ++ a ++ b = [o, a, b].flatten := by simp
  have CN := Lib.hid (fun W (hb : Below w.heap.size w W) => by
    have := refNames_any v0 v1 v2 o a b W (h0.up hb) (h1.up hb) (h2.up hb) (by simp; omega)
    rwa [hflat] at this)
  have H0 := Lib.hid h0
  have H1 := Lib.hid h1
  have H2 := Lib.hid h2
  obtain ⟨a0, c0, rfl, hc0⟩ := h0.form rfl
  obtain ⟨a1, c1, rfl, hc1⟩ := h1.form rfl
  obtain ⟨a2, c2, rfl, hc2⟩ := h2.form rfl
  clear h0 h1 h2 hflat
  unfold valAV faultV at CO CA CB
  unfold MergePost faultV at C1
  unfold OneMerge at CM
  unfold NamesPost at CN
  by_cases hv : (valA o).1 = 0
  rotate_left
  · have hf : chkF [o, a, b] = ((valA o).1, ((0 : Nat) : Int)) := chk_hit (k := 0) (by simp) rfl hv (fun j hj => by exact absurd hj (by omega))
    have hmf : mrgF o a b = ((valA o).1, ((0 : Nat) : Int)) := by unfold mrgF; rw [hf, if_neg hv]
    have e1 : mrgO o a b = [] := by unfold mrgO; rw [hmf, if_neg hv]
    have e2 : cflO o a b = [] := by unfold cflO; rw [hmf, if_neg hv]
    have HF := Lib.hid hmf
    rw [e1, e2] at C1
    clear hf hmf e1 e2
    generalize (valA o).1 = d at *
    generalize (valA o).2 = i at *
    have hd1 : (d != 0) = true := by simpa using hv
    have hd2 : (d == 0) = false := by simpa using hv
    clear hv
    go_enter Try.func7, Try.ntmps7
    go_wp2_with fail
    refine C1.out.mono ?_
    rintro e w1 ⟨v7, u7, rfl, A1, S1, b1⟩
    rw [HF.out]
    obtain ⟨am, cm, rfl, _⟩ := A1.form rfl
    obtain ⟨aq, cq, rfl, _⟩ := S1.form rfl
    have s1 := b1.size
    go_wp2_with fail
    refine (CO.out _ ((b1.alloc s1 _).alloc (by first | omega | (simp; done) | (simp; omega)) _)).mono ?_
    rintro e w2 ⟨rfl, b2⟩
    have X2 := ((FBox.new w1 d 0 24).alloc (.cells #[.int .i64 0, .int .i64 0] 24)).below b2 (by first | omega | (simp; done) | (simp; omega))
    have Y2 := ((FBox.new (w1.alloc (.cells #[.int .i64 d, .int .i64 0] 24)) 0 0 24).below b2 (by first | omega | (simp; done) | (simp; omega))).at_ (n' := w1.heap.size + 1) (by simp)
    have A2 := ((A1.alloc (Nat.le_refl _) (.cells #[.int .i64 d, .int .i64 0] 24)).alloc (by first | omega | (simp; done) | (simp; omega)) (.cells #[.int .i64 0, .int .i64 0] 24)).below (b2.mono (by first | omega | (simp; done) | (simp; omega)))
    have S2 := ((S1.alloc (Nat.le_refl _) (.cells #[.int .i64 d, .int .i64 0] 24)).alloc (by first | omega | (simp; done) | (simp; omega)) (.cells #[.int .i64 0, .int .i64 0] 24)).below (b2.mono (by first | omega | (simp; done) | (simp; omega)))
    have B2 : Below w.heap.size w w2 := ((b1.alloc s1 _).alloc (by first | omega | (simp; done) | (simp; omega)) _).trans (b2.mono (by first | omega | (simp; done) | (simp; omega)))
    have s2 := B2.size
    have l2 := Y2.lt
    clear b1 b2 A1 S1
    generalize hn1 : w1.heap.size = n1 at *
    generalize hn2 : n1 + 1 = n2 at *
    have q12 : n1 < n2 := by omega
    clear hn1 hn2
    have XW := X2.alloc (.cells #[.int .i64 d, .int .i64 i] 24)
    have YW := Y2.alloc (.cells #[.int .i64 d, .int .i64 i] 24)
    have BW : Below w.heap.size w (w2.alloc (.cells #[.int .i64 d, .int .i64 i] 24)) := B2.alloc s2 _
    clear A2 S2
    go_wp2_with fail
    refine (newFault_any _ _ _).mono ?_
    rintro e w5 ⟨rfl, b5⟩
    have X5 := XW.below b5 XW.lt
    have Y5 := YW.below b5 YW.lt
    have B5 : Below w.heap.size w w5 := BW.trans (b5.mono BW.size)
    have s5 := B5.size
    have l5 := Y5.lt
    clear b5 X2 Y2 B2 XW YW BW
    obtain ⟨_, y0, y1, yf0, yf1⟩ := Y5
    go_wp2_with fail
    refine (CN.out _ ((B5.setCell (by first | omega | (simp; done) | (simp; omega)) _).setCell (by first | omega | (simp; done) | (simp; omega)) _)).mono ?_
    rintro e w6 ⟨vN, rfl, S6, b6⟩
    obtain ⟨aN, cN, rfl, _⟩ := S6.form rfl
    have hne : n1 ≠ n2 := by omega
    have X6 := Lib.hid (((X5.far (p := ⟨n2, 0, none⟩) hne (.int .i64 d)).far (p := ⟨n2, 1, none⟩) hne (.int .i64 0)).below b6 (by first | omega | (simp; done) | (simp; omega)))
    have Y6 := Lib.hid ((FBox.put ⟨l5, y0, y1, yf0, yf1⟩ d 0).below b6 (by first | omega | (simp; done) | (simp; omega)))
    have B6 := Lib.hid (((B5.setCell (p := ⟨n2, 0, none⟩) (by first | omega | (simp; done) | (simp; omega)) (.int .i64 d)).setCell (p := ⟨n2, 1, none⟩) (by first | omega | (simp; done) | (simp; omega)) (.int .i64 0)).trans (b6.mono (by first | omega | (simp; done) | (simp; omega))))
    have s6 := B6.out.size
    have l6 := Y6.out.lt
    have yc := Y6.out.c0
    generalize (namesB [o, a, b].flatten).length = nN at *
    clear b6 S6 X5 y0 y1 yf0 yf1 B5
    go_wp2_with fail
    go_loopg [14, 15, 17, 18, 19, 20, 21] 0 (fun gg s14 s15 s17 _ _ _ _ wr => s14 = .slice none 0 0 ∧ s15 = .slice none 0 0 ∧ s17 = .int .i64 0 ∧ w6 = wr)
    case atStart => exact ⟨rfl, rfl, rfl, rfl⟩
    case round =>
      obtain ⟨rfl, rfl, rfl, hw⟩ := hrel
      subst hw
      have FIN : True := trivial
      by_cases hz : 0 < nN
      · have hzz : (0 : Int) < (nN : Int) := by omega
        go_wp2_with fail
        refine (CM.out _ _ ((ats_one _ _ (by first | omega | (simp; done) | (simp; omega)) ⟨bA, bB⟩ ⟨bA_fits, bB_fits⟩ _).more (by first | omega | (simp; done) | (simp; omega)))).mono ?_
        rintro e w8 ⟨a8, c8, u8, rfl, b8⟩
        have X8 := (X6.out.alloc (.cells #[.string bA, .string bB] 27)).below b8 (by first | omega | (simp; done) | (simp; omega))
        have Y8 := (Y6.out.alloc (.cells #[.string bA, .string bB] 27)).below b8 (by first | omega | (simp; done) | (simp; omega))
        have B8 : Below w.heap.size w w8 := (B6.out.alloc s6 _).trans (b8.mono (by first | omega | (simp; done) | (simp; omega)))
        have s8 := B8.size
        have l8 := Y8.lt
        have m8 := X8.lt
        clear b8
        obtain ⟨_, x0, x1, _, _⟩ := X8
        obtain ⟨_, y0, y1, _, _⟩ := Y8
        go_wp2
        go_ret
        refine ⟨by first | rfl | simp, ?_⟩
        repeat (first | exact B8 | refine below_drewN ?_ _ | refine Below.alloc ?_ (by first | omega | (simp; done) | (simp; omega)) _)
      · have hzz : decide ((0 : Int) < (nN : Int)) = false := by simp; omega
        go_wp2_with fail
        refine (CM.out _ _ ((ats_one _ _ (by first | omega | (simp; done) | (simp; omega)) ⟨bA, bB⟩ ⟨bA_fits, bB_fits⟩ _).more (by first | omega | (simp; done) | (simp; omega)))).mono ?_
        rintro e w8 ⟨a8, c8, u8, rfl, b8⟩
        have X8 := (X6.out.alloc (.cells #[.string bA, .string bB] 27)).below b8 (by first | omega | (simp; done) | (simp; omega))
        have Y8 := (Y6.out.alloc (.cells #[.string bA, .string bB] 27)).below b8 (by first | omega | (simp; done) | (simp; omega))
        have B8 : Below w.heap.size w w8 := (B6.out.alloc s6 _).trans (b8.mono (by first | omega | (simp; done) | (simp; omega)))
        have s8 := B8.size
        have l8 := Y8.lt
        have m8 := X8.lt
        clear b8
        obtain ⟨_, x0, x1, _, _⟩ := X8
        obtain ⟨_, y0, y1, _, _⟩ := Y8
        go_wp2
        go_ret
        refine ⟨by first | rfl | simp, ?_⟩
        repeat (first | exact B8 | refine below_drewN ?_ _ | refine Below.alloc ?_ (by first | omega | (simp; done) | (simp; omega)) _)
  have hz0 := hv
  clear hv
  by_cases hv : (valA a).1 = 0
  rotate_left
  · have hf : chkF [o, a, b] = ((valA a).1, ((1 : Nat) : Int)) := chk_hit (k := 1) (by simp) rfl hv (fun j hj => by have e : j = 0 := (by omega); subst e; exact hz0)
    have hmf : mrgF o a b = ((valA a).1, ((1 : Nat) : Int)) := by unfold mrgF; rw [hf, if_neg hv]
    have e1 : mrgO o a b = [] := by unfold mrgO; rw [hmf, if_neg hv]
    have e2 : cflO o a b = [] := by unfold cflO; rw [hmf, if_neg hv]
    have HF := Lib.hid hmf
    rw [e1, e2] at C1
    clear hf hmf e1 e2
    have e3 := valA_00 hz0
    rw [e3] at CO
    clear e3 hz0
    generalize (valA a).1 = d at *
    generalize (valA a).2 = i at *
    have hd1 : (d != 0) = true := by simpa using hv
    have hd2 : (d == 0) = false := by simpa using hv
    clear hv
    go_enter Try.func7, Try.ntmps7
    go_wp2_with fail
    refine C1.out.mono ?_
    rintro e w1 ⟨v7, u7, rfl, A1, S1, b1⟩
    rw [HF.out]
    obtain ⟨am, cm, rfl, _⟩ := A1.form rfl
    obtain ⟨aq, cq, rfl, _⟩ := S1.form rfl
    have s1 := b1.size
    go_wp2_with fail
    refine (CO.out _ ((b1.alloc s1 _).alloc (by first | omega | (simp; done) | (simp; omega)) _)).mono ?_
    rintro e w2 ⟨rfl, b2⟩
    have X2 := ((FBox.new w1 d 1 24).alloc (.cells #[.int .i64 0, .int .i64 0] 24)).below b2 (by first | omega | (simp; done) | (simp; omega))
    have Y2 := ((FBox.new (w1.alloc (.cells #[.int .i64 d, .int .i64 1] 24)) 0 0 24).below b2 (by first | omega | (simp; done) | (simp; omega))).at_ (n' := w1.heap.size + 1) (by simp)
    have A2 := ((A1.alloc (Nat.le_refl _) (.cells #[.int .i64 d, .int .i64 1] 24)).alloc (by first | omega | (simp; done) | (simp; omega)) (.cells #[.int .i64 0, .int .i64 0] 24)).below (b2.mono (by first | omega | (simp; done) | (simp; omega)))
    have S2 := ((S1.alloc (Nat.le_refl _) (.cells #[.int .i64 d, .int .i64 1] 24)).alloc (by first | omega | (simp; done) | (simp; omega)) (.cells #[.int .i64 0, .int .i64 0] 24)).below (b2.mono (by first | omega | (simp; done) | (simp; omega)))
    have B2 : Below w.heap.size w w2 := ((b1.alloc s1 _).alloc (by first | omega | (simp; done) | (simp; omega)) _).trans (b2.mono (by first | omega | (simp; done) | (simp; omega)))
    have s2 := B2.size
    have l2 := Y2.lt
    clear b1 b2 A1 S1
    generalize hn1 : w1.heap.size = n1 at *
    generalize hn2 : n1 + 1 = n2 at *
    have q12 : n1 < n2 := by omega
    clear hn1 hn2
    go_wp2_with fail
    refine (CA.out _ (B2.alloc s2 _)).mono ?_
    rintro e w3 ⟨rfl, b3⟩
    have X3 := (X2.alloc (.cells #[.int .i64 0, .int .i64 0] 24)).below b3 (by first | omega | (simp; done) | (simp; omega))
    have Y3 := (Y2.alloc (.cells #[.int .i64 0, .int .i64 0] 24)).below b3 (by first | omega | (simp; done) | (simp; omega))
    have A3 := (A2.alloc (by first | omega | (simp; done) | (simp; omega)) (.cells #[.int .i64 0, .int .i64 0] 24)).below (b3.mono (by first | omega | (simp; done) | (simp; omega)))
    have S3 := (S2.alloc (by first | omega | (simp; done) | (simp; omega)) (.cells #[.int .i64 0, .int .i64 0] 24)).below (b3.mono (by first | omega | (simp; done) | (simp; omega)))
    have B3 : Below w.heap.size w w3 := (B2.alloc s2 _).trans (b3.mono (by first | omega | (simp; done) | (simp; omega)))
    have s3 := B3.size
    have l3 := Y3.lt
    clear b3 X2 Y2 A2 S2 B2
    have XW := X3.alloc (.cells #[.int .i64 d, .int .i64 i] 24)
    have YW := Y3.alloc (.cells #[.int .i64 d, .int .i64 i] 24)
    have BW : Below w.heap.size w (w3.alloc (.cells #[.int .i64 d, .int .i64 i] 24)) := B3.alloc s3 _
    clear A3 S3
    go_wp2_with fail
    refine (newFault_any _ _ _).mono ?_
    rintro e w5 ⟨rfl, b5⟩
    have X5 := XW.below b5 XW.lt
    have Y5 := YW.below b5 YW.lt
    have B5 : Below w.heap.size w w5 := BW.trans (b5.mono BW.size)
    have s5 := B5.size
    have l5 := Y5.lt
    clear b5 X3 Y3 B3 XW YW BW
    obtain ⟨_, y0, y1, yf0, yf1⟩ := Y5
    go_wp2_with fail
    refine (CN.out _ ((B5.setCell (by first | omega | (simp; done) | (simp; omega)) _).setCell (by first | omega | (simp; done) | (simp; omega)) _)).mono ?_
    rintro e w6 ⟨vN, rfl, S6, b6⟩
    obtain ⟨aN, cN, rfl, _⟩ := S6.form rfl
    have hne : n1 ≠ n2 := by omega
    have X6 := Lib.hid (((X5.far (p := ⟨n2, 0, none⟩) hne (.int .i64 d)).far (p := ⟨n2, 1, none⟩) hne (.int .i64 1)).below b6 (by first | omega | (simp; done) | (simp; omega)))
    have Y6 := Lib.hid ((FBox.put ⟨l5, y0, y1, yf0, yf1⟩ d 1).below b6 (by first | omega | (simp; done) | (simp; omega)))
    have B6 := Lib.hid (((B5.setCell (p := ⟨n2, 0, none⟩) (by first | omega | (simp; done) | (simp; omega)) (.int .i64 d)).setCell (p := ⟨n2, 1, none⟩) (by first | omega | (simp; done) | (simp; omega)) (.int .i64 1)).trans (b6.mono (by first | omega | (simp; done) | (simp; omega))))
    have s6 := B6.out.size
    have l6 := Y6.out.lt
    have yc := Y6.out.c0
    generalize (namesB [o, a, b].flatten).length = nN at *
    clear b6 S6 X5 y0 y1 yf0 yf1 B5
    go_wp2_with fail
    go_loopg [14, 15, 17, 18, 19, 20, 21] 0 (fun gg s14 s15 s17 _ _ _ _ wr => s14 = .slice none 0 0 ∧ s15 = .slice none 0 0 ∧ s17 = .int .i64 0 ∧ w6 = wr)
    case atStart => exact ⟨rfl, rfl, rfl, rfl⟩
    case round =>
      obtain ⟨rfl, rfl, rfl, hw⟩ := hrel
      subst hw
      have FIN : True := trivial
      by_cases hz : 0 < nN
      · have hzz : (0 : Int) < (nN : Int) := by omega
        go_wp2_with fail
        refine (CM.out _ _ ((ats_one _ _ (by first | omega | (simp; done) | (simp; omega)) ⟨bA, bB⟩ ⟨bA_fits, bB_fits⟩ _).more (by first | omega | (simp; done) | (simp; omega)))).mono ?_
        rintro e w8 ⟨a8, c8, u8, rfl, b8⟩
        have X8 := (X6.out.alloc (.cells #[.string bA, .string bB] 27)).below b8 (by first | omega | (simp; done) | (simp; omega))
        have Y8 := (Y6.out.alloc (.cells #[.string bA, .string bB] 27)).below b8 (by first | omega | (simp; done) | (simp; omega))
        have B8 : Below w.heap.size w w8 := (B6.out.alloc s6 _).trans (b8.mono (by first | omega | (simp; done) | (simp; omega)))
        have s8 := B8.size
        have l8 := Y8.lt
        have m8 := X8.lt
        clear b8
        obtain ⟨_, x0, x1, _, _⟩ := X8
        obtain ⟨_, y0, y1, _, _⟩ := Y8
        go_wp2
        go_ret
        refine ⟨by first | rfl | simp, ?_⟩
        repeat (first | exact B8 | refine below_drewN ?_ _ | refine Below.alloc ?_ (by first | omega | (simp; done) | (simp; omega)) _)
      · have hzz : decide ((0 : Int) < (nN : Int)) = false := by simp; omega
        go_wp2_with fail
        refine (CM.out _ _ ((ats_one _ _ (by first | omega | (simp; done) | (simp; omega)) ⟨bA, bB⟩ ⟨bA_fits, bB_fits⟩ _).more (by first | omega | (simp; done) | (simp; omega)))).mono ?_
        rintro e w8 ⟨a8, c8, u8, rfl, b8⟩
        have X8 := (X6.out.alloc (.cells #[.string bA, .string bB] 27)).below b8 (by first | omega | (simp; done) | (simp; omega))
        have Y8 := (Y6.out.alloc (.cells #[.string bA, .string bB] 27)).below b8 (by first | omega | (simp; done) | (simp; omega))
        have B8 : Below w.heap.size w w8 := (B6.out.alloc s6 _).trans (b8.mono (by first | omega | (simp; done) | (simp; omega)))
        have s8 := B8.size
        have l8 := Y8.lt
        have m8 := X8.lt
        clear b8
        obtain ⟨_, x0, x1, _, _⟩ := X8
        obtain ⟨_, y0, y1, _, _⟩ := Y8
        go_wp2
        go_ret
        refine ⟨by first | rfl | simp, ?_⟩
        repeat (first | exact B8 | refine below_drewN ?_ _ | refine Below.alloc ?_ (by first | omega | (simp; done) | (simp; omega)) _)
  have hz1 := hv
  clear hv
  by_cases hv : (valA b).1 = 0
  rotate_left
  · have hf : chkF [o, a, b] = ((valA b).1, ((2 : Nat) : Int)) := chk_hit (k := 2) (by simp) rfl hv (fun j hj => by rcases (show j = 0 ∨ j = 1 by omega) with rfl | rfl; exact hz0; exact hz1)
    have hmf : mrgF o a b = ((valA b).1, ((2 : Nat) : Int)) := by unfold mrgF; rw [hf, if_neg hv]
    have e1 : mrgO o a b = [] := by unfold mrgO; rw [hmf, if_neg hv]
    have e2 : cflO o a b = [] := by unfold cflO; rw [hmf, if_neg hv]
    have HF := Lib.hid hmf
    rw [e1, e2] at C1
    clear hf hmf e1 e2
    have e3 := valA_00 hz0
    have e4 := valA_00 hz1
    rw [e3] at CO
    rw [e4] at CA
    clear e3 e4 hz0 hz1
    generalize (valA b).1 = d at *
    generalize (valA b).2 = i at *
    have hd1 : (d != 0) = true := by simpa using hv
    have hd2 : (d == 0) = false := by simpa using hv
    clear hv
    go_enter Try.func7, Try.ntmps7
    go_wp2_with fail
    refine C1.out.mono ?_
    rintro e w1 ⟨v7, u7, rfl, A1, S1, b1⟩
    rw [HF.out]
    obtain ⟨am, cm, rfl, _⟩ := A1.form rfl
    obtain ⟨aq, cq, rfl, _⟩ := S1.form rfl
    have s1 := b1.size
    go_wp2_with fail
    refine (CO.out _ ((b1.alloc s1 _).alloc (by first | omega | (simp; done) | (simp; omega)) _)).mono ?_
    rintro e w2 ⟨rfl, b2⟩
    have X2 := ((FBox.new w1 d 2 24).alloc (.cells #[.int .i64 0, .int .i64 0] 24)).below b2 (by first | omega | (simp; done) | (simp; omega))
    have Y2 := ((FBox.new (w1.alloc (.cells #[.int .i64 d, .int .i64 2] 24)) 0 0 24).below b2 (by first | omega | (simp; done) | (simp; omega))).at_ (n' := w1.heap.size + 1) (by simp)
    have A2 := ((A1.alloc (Nat.le_refl _) (.cells #[.int .i64 d, .int .i64 2] 24)).alloc (by first | omega | (simp; done) | (simp; omega)) (.cells #[.int .i64 0, .int .i64 0] 24)).below (b2.mono (by first | omega | (simp; done) | (simp; omega)))
    have S2 := ((S1.alloc (Nat.le_refl _) (.cells #[.int .i64 d, .int .i64 2] 24)).alloc (by first | omega | (simp; done) | (simp; omega)) (.cells #[.int .i64 0, .int .i64 0] 24)).below (b2.mono (by first | omega | (simp; done) | (simp; omega)))
    have B2 : Below w.heap.size w w2 := ((b1.alloc s1 _).alloc (by first | omega | (simp; done) | (simp; omega)) _).trans (b2.mono (by first | omega | (simp; done) | (simp; omega)))
    have s2 := B2.size
    have l2 := Y2.lt
    clear b1 b2 A1 S1
    generalize hn1 : w1.heap.size = n1 at *
    generalize hn2 : n1 + 1 = n2 at *
    have q12 : n1 < n2 := by omega
    clear hn1 hn2
    go_wp2_with fail
    refine (CA.out _ (B2.alloc s2 _)).mono ?_
    rintro e w3 ⟨rfl, b3⟩
    have X3 := (X2.alloc (.cells #[.int .i64 0, .int .i64 0] 24)).below b3 (by first | omega | (simp; done) | (simp; omega))
    have Y3 := (Y2.alloc (.cells #[.int .i64 0, .int .i64 0] 24)).below b3 (by first | omega | (simp; done) | (simp; omega))
    have A3 := (A2.alloc (by first | omega | (simp; done) | (simp; omega)) (.cells #[.int .i64 0, .int .i64 0] 24)).below (b3.mono (by first | omega | (simp; done) | (simp; omega)))
    have S3 := (S2.alloc (by first | omega | (simp; done) | (simp; omega)) (.cells #[.int .i64 0, .int .i64 0] 24)).below (b3.mono (by first | omega | (simp; done) | (simp; omega)))
    have B3 : Below w.heap.size w w3 := (B2.alloc s2 _).trans (b3.mono (by first | omega | (simp; done) | (simp; omega)))
    have s3 := B3.size
    have l3 := Y3.lt
    clear b3 X2 Y2 A2 S2 B2
    go_wp2_with fail
    refine (CB.out _ (B3.alloc s3 _)).mono ?_
    rintro e w4 ⟨rfl, b4⟩
    have X4 := (X3.alloc (.cells #[.int .i64 0, .int .i64 0] 24)).below b4 (by first | omega | (simp; done) | (simp; omega))
    have Y4 := (Y3.alloc (.cells #[.int .i64 0, .int .i64 0] 24)).below b4 (by first | omega | (simp; done) | (simp; omega))
    have A4 := (A3.alloc (by first | omega | (simp; done) | (simp; omega)) (.cells #[.int .i64 0, .int .i64 0] 24)).below (b4.mono (by first | omega | (simp; done) | (simp; omega)))
    have S4 := (S3.alloc (by first | omega | (simp; done) | (simp; omega)) (.cells #[.int .i64 0, .int .i64 0] 24)).below (b4.mono (by first | omega | (simp; done) | (simp; omega)))
    have B4 : Below w.heap.size w w4 := (B3.alloc s3 _).trans (b4.mono (by first | omega | (simp; done) | (simp; omega)))
    have s4 := B4.size
    have l4 := Y4.lt
    clear b4 X3 Y3 A3 S3 B3
    have XW := X4.alloc (.cells #[.int .i64 d, .int .i64 i] 24)
    have YW := Y4.alloc (.cells #[.int .i64 d, .int .i64 i] 24)
    have BW : Below w.heap.size w (w4.alloc (.cells #[.int .i64 d, .int .i64 i] 24)) := B4.alloc s4 _
    clear A4 S4
    go_wp2_with fail
    refine (newFault_any _ _ _).mono ?_
    rintro e w5 ⟨rfl, b5⟩
    have X5 := XW.below b5 XW.lt
    have Y5 := YW.below b5 YW.lt
    have B5 : Below w.heap.size w w5 := BW.trans (b5.mono BW.size)
    have s5 := B5.size
    have l5 := Y5.lt
    clear b5 X4 Y4 B4 XW YW BW
    obtain ⟨_, y0, y1, yf0, yf1⟩ := Y5
    go_wp2_with fail
    refine (CN.out _ ((B5.setCell (by first | omega | (simp; done) | (simp; omega)) _).setCell (by first | omega | (simp; done) | (simp; omega)) _)).mono ?_
    rintro e w6 ⟨vN, rfl, S6, b6⟩
    obtain ⟨aN, cN, rfl, _⟩ := S6.form rfl
    have hne : n1 ≠ n2 := by omega
    have X6 := Lib.hid (((X5.far (p := ⟨n2, 0, none⟩) hne (.int .i64 d)).far (p := ⟨n2, 1, none⟩) hne (.int .i64 2)).below b6 (by first | omega | (simp; done) | (simp; omega)))
    have Y6 := Lib.hid ((FBox.put ⟨l5, y0, y1, yf0, yf1⟩ d 2).below b6 (by first | omega | (simp; done) | (simp; omega)))
    have B6 := Lib.hid (((B5.setCell (p := ⟨n2, 0, none⟩) (by first | omega | (simp; done) | (simp; omega)) (.int .i64 d)).setCell (p := ⟨n2, 1, none⟩) (by first | omega | (simp; done) | (simp; omega)) (.int .i64 2)).trans (b6.mono (by first | omega | (simp; done) | (simp; omega))))
    have s6 := B6.out.size
    have l6 := Y6.out.lt
    have yc := Y6.out.c0
    generalize (namesB [o, a, b].flatten).length = nN at *
    clear b6 S6 X5 y0 y1 yf0 yf1 B5
    go_wp2_with fail
    go_loopg [14, 15, 17, 18, 19, 20, 21] 0 (fun gg s14 s15 s17 _ _ _ _ wr => s14 = .slice none 0 0 ∧ s15 = .slice none 0 0 ∧ s17 = .int .i64 0 ∧ w6 = wr)
    case atStart => exact ⟨rfl, rfl, rfl, rfl⟩
    case round =>
      obtain ⟨rfl, rfl, rfl, hw⟩ := hrel
      subst hw
      have FIN : True := trivial
      by_cases hz : 0 < nN
      · have hzz : (0 : Int) < (nN : Int) := by omega
        go_wp2_with fail
        refine (CM.out _ _ ((ats_one _ _ (by first | omega | (simp; done) | (simp; omega)) ⟨bA, bB⟩ ⟨bA_fits, bB_fits⟩ _).more (by first | omega | (simp; done) | (simp; omega)))).mono ?_
        rintro e w8 ⟨a8, c8, u8, rfl, b8⟩
        have X8 := (X6.out.alloc (.cells #[.string bA, .string bB] 27)).below b8 (by first | omega | (simp; done) | (simp; omega))
        have Y8 := (Y6.out.alloc (.cells #[.string bA, .string bB] 27)).below b8 (by first | omega | (simp; done) | (simp; omega))
        have B8 : Below w.heap.size w w8 := (B6.out.alloc s6 _).trans (b8.mono (by first | omega | (simp; done) | (simp; omega)))
        have s8 := B8.size
        have l8 := Y8.lt
        have m8 := X8.lt
        clear b8
        obtain ⟨_, x0, x1, _, _⟩ := X8
        obtain ⟨_, y0, y1, _, _⟩ := Y8
        go_wp2
        go_ret
        refine ⟨by first | rfl | simp, ?_⟩
        repeat (first | exact B8 | refine below_drewN ?_ _ | refine Below.alloc ?_ (by first | omega | (simp; done) | (simp; omega)) _)
      · have hzz : decide ((0 : Int) < (nN : Int)) = false := by simp; omega
        go_wp2_with fail
        refine (CM.out _ _ ((ats_one _ _ (by first | omega | (simp; done) | (simp; omega)) ⟨bA, bB⟩ ⟨bA_fits, bB_fits⟩ _).more (by first | omega | (simp; done) | (simp; omega)))).mono ?_
        rintro e w8 ⟨a8, c8, u8, rfl, b8⟩
        have X8 := (X6.out.alloc (.cells #[.string bA, .string bB] 27)).below b8 (by first | omega | (simp; done) | (simp; omega))
        have Y8 := (Y6.out.alloc (.cells #[.string bA, .string bB] 27)).below b8 (by first | omega | (simp; done) | (simp; omega))
        have B8 : Below w.heap.size w w8 := (B6.out.alloc s6 _).trans (b8.mono (by first | omega | (simp; done) | (simp; omega)))
        have s8 := B8.size
        have l8 := Y8.lt
        have m8 := X8.lt
        clear b8
        obtain ⟨_, x0, x1, _, _⟩ := X8
        obtain ⟨_, y0, y1, _, _⟩ := Y8
        go_wp2
        go_ret
        refine ⟨by first | rfl | simp, ?_⟩
        repeat (first | exact B8 | refine below_drewN ?_ _ | refine Below.alloc ?_ (by first | omega | (simp; done) | (simp; omega)) _)
  have go := good_of hz0
  have ga := good_of hz1
  have gb := good_of hv
  have hf : chkF [o, a, b] = (0, 0) := chk_miss fun j hj => by
    match j, hj with
    | 0, _ => exact hz0
    | 1, _ => exact hz1
    | 2, _ => exact hv
  have hmf : mrgF o a b = if 6 < (mrgL o a b).length then (14, 0) else (0, 0) := by unfold mrgF; rw [hf, if_pos rfl]
  obtain ⟨fc, hfc, hway⟩ : ∃ fc : Int, mrgF o a b = (fc, 0) ∧ ((fc = 14 ∧ 6 < (mrgL o a b).length ∧ mrgO o a b = [] ∧ cflO o a b = []) ∨ (fc = 0 ∧ ¬ 6 < (mrgL o a b).length ∧ mrgO o a b = mrgL o a b ∧ cflO o a b = cflL o a b)) := by
    by_cases hl : 6 < (mrgL o a b).length
    · rw [if_pos hl] at hmf
      exact ⟨14, hmf, .inl ⟨rfl, hl, by unfold mrgO; rw [hmf, if_neg (by simp)], by unfold cflO; rw [hmf, if_neg (by simp)]⟩⟩
    · rw [if_neg hl] at hmf
      exact ⟨0, hmf, .inr ⟨rfl, hl, by unfold mrgO; rw [hmf, if_pos rfl], by unfold cflO; rw [hmf, if_pos rfl]⟩⟩
  have HF := Lib.hid hfc
  have WAY := Lib.hid hway
  have htot : [o, a, b].flatten.length ≤ 1000 := by have := go.len; have := ga.len; have := gb.len; simp; omega
  have HVO := Lib.hid (fun W nm (hb : Below w.heap.size w W) => attrValue_any _ o nm W _ (H0.out.up hb))
  have HVA := Lib.hid (fun W nm (hb : Below w.heap.size w W) => attrValue_any _ a nm W _ (H1.out.up hb))
  have HVB := Lib.hid (fun W nm (hb : Below w.heap.size w W) => attrValue_any _ b nm W _ (H2.out.up hb))
  have hnl := names_len [o, a, b].flatten
  have hNF := names_fits (L := [o, a, b].flatten) (fun e he => by
    simp at he
    rcases he with he | he | he
    · exact H0.out.fits e he
    · exact H1.out.fits e he
    · exact H2.out.fits e he)
  have HML := Lib.hid (show mrgL o a b = mrgK o a b (namesB [o, a, b].flatten) (namesB [o, a, b].flatten).length from rfl)
  have HCL := Lib.hid (show cflL o a b = cflK o a b (namesB [o, a, b].flatten) (namesB [o, a, b].flatten).length from rfl)
  generalize namesB [o, a, b].flatten = N at *
  have HNF := Lib.hid hNF
  have hN6 : N.length ≤ 1000 := by omega
  have e1 := valA_00 hz0
  have e2 := valA_00 hz1
  have e3 := valA_00 hv
  rw [e1] at CO
  rw [e2] at CA
  rw [e3] at CB
  clear go ga gb hf hmf hfc hway htot hnl hNF hv hz0 hz1 e1 e2 e3
  go_enter Try.func7, Try.ntmps7
  go_wp2_with fail
  refine C1.out.mono ?_
  rintro e w1 ⟨v7, u7, rfl, A1, S1, b1⟩
  rw [HF.out]
  obtain ⟨am, cm, rfl, _⟩ := A1.form rfl
  obtain ⟨aq, cq, rfl, _⟩ := S1.form rfl
  have s1 := b1.size
  go_wp2_with fail
  refine (CO.out _ ((b1.alloc s1 _).alloc (by first | omega | (simp; done) | (simp; omega)) _)).mono ?_
  rintro e w2 ⟨rfl, b2⟩
  have X2 := ((FBox.new w1 fc 0 24).alloc (.cells #[.int .i64 0, .int .i64 0] 24)).below b2 (by first | omega | (simp; done) | (simp; omega))
  have Y2 := ((FBox.new (w1.alloc (.cells #[.int .i64 fc, .int .i64 0] 24)) 0 0 24).below b2 (by first | omega | (simp; done) | (simp; omega))).at_ (n' := w1.heap.size + 1) (by simp)
  have A2 := ((A1.alloc (Nat.le_refl _) (.cells #[.int .i64 fc, .int .i64 0] 24)).alloc (by first | omega | (simp; done) | (simp; omega)) (.cells #[.int .i64 0, .int .i64 0] 24)).below (b2.mono (by first | omega | (simp; done) | (simp; omega)))
  have S2 := ((S1.alloc (Nat.le_refl _) (.cells #[.int .i64 fc, .int .i64 0] 24)).alloc (by first | omega | (simp; done) | (simp; omega)) (.cells #[.int .i64 0, .int .i64 0] 24)).below (b2.mono (by first | omega | (simp; done) | (simp; omega)))
  have B2 : Below w.heap.size w w2 := ((b1.alloc s1 _).alloc (by first | omega | (simp; done) | (simp; omega)) _).trans (b2.mono (by first | omega | (simp; done) | (simp; omega)))
  have s2 := B2.size
  have l2 := Y2.lt
  clear b1 b2 A1 S1
  generalize hn1 : w1.heap.size = n1 at *
  generalize hn2 : n1 + 1 = n2 at *
  have q12 : n1 < n2 := by omega
  clear hn1 hn2
  go_wp2_with fail
  refine (CA.out _ (B2.alloc s2 _)).mono ?_
  rintro e w3 ⟨rfl, b3⟩
  have X3 := (X2.alloc (.cells #[.int .i64 0, .int .i64 0] 24)).below b3 (by first | omega | (simp; done) | (simp; omega))
  have Y3 := (Y2.alloc (.cells #[.int .i64 0, .int .i64 0] 24)).below b3 (by first | omega | (simp; done) | (simp; omega))
  have A3 := (A2.alloc (by first | omega | (simp; done) | (simp; omega)) (.cells #[.int .i64 0, .int .i64 0] 24)).below (b3.mono (by first | omega | (simp; done) | (simp; omega)))
  have S3 := (S2.alloc (by first | omega | (simp; done) | (simp; omega)) (.cells #[.int .i64 0, .int .i64 0] 24)).below (b3.mono (by first | omega | (simp; done) | (simp; omega)))
  have B3 : Below w.heap.size w w3 := (B2.alloc s2 _).trans (b3.mono (by first | omega | (simp; done) | (simp; omega)))
  have s3 := B3.size
  have l3 := Y3.lt
  clear b3 X2 Y2 A2 S2 B2
  go_wp2_with fail
  refine (CB.out _ (B3.alloc s3 _)).mono ?_
  rintro e w4 ⟨rfl, b4⟩
  have X4 := (X3.alloc (.cells #[.int .i64 0, .int .i64 0] 24)).below b4 (by first | omega | (simp; done) | (simp; omega))
  have Y4 := (Y3.alloc (.cells #[.int .i64 0, .int .i64 0] 24)).below b4 (by first | omega | (simp; done) | (simp; omega))
  have A4 := (A3.alloc (by first | omega | (simp; done) | (simp; omega)) (.cells #[.int .i64 0, .int .i64 0] 24)).below (b4.mono (by first | omega | (simp; done) | (simp; omega)))
  have S4 := (S3.alloc (by first | omega | (simp; done) | (simp; omega)) (.cells #[.int .i64 0, .int .i64 0] 24)).below (b4.mono (by first | omega | (simp; done) | (simp; omega)))
  have B4 : Below w.heap.size w w4 := (B3.alloc s3 _).trans (b4.mono (by first | omega | (simp; done) | (simp; omega)))
  have s4 := B4.size
  have l4 := Y4.lt
  clear b4 X3 Y3 A3 S3 B3
  go_wp2_with fail
  refine (CN.out _ (B4.alloc s4 _)).mono ?_
  rintro e w6 ⟨vN, rfl, S6, b6⟩
  obtain ⟨aN, cN, rfl, _⟩ := S6.form rfl
  have X6 := Lib.hid ((X4.alloc (.cells #[.int .i64 0, .int .i64 0] 24)).below b6 (by first | omega | (simp; done) | (simp; omega)))
  have Y6 := Lib.hid ((Y4.alloc (.cells #[.int .i64 0, .int .i64 0] 24)).below b6 (by first | omega | (simp; done) | (simp; omega)))
  have A6 := Lib.hid ((A4.alloc (by first | omega | (simp; done) | (simp; omega)) (.cells #[.int .i64 0, .int .i64 0] 24)).below (b6.mono (by first | omega | (simp; done) | (simp; omega))))
  have T6 := Lib.hid ((S4.alloc (by first | omega | (simp; done) | (simp; omega)) (.cells #[.int .i64 0, .int .i64 0] 24)).below (b6.mono (by first | omega | (simp; done) | (simp; omega))))
  have B6 := Lib.hid ((B4.alloc s4 (.cells #[.int .i64 0, .int .i64 0] 24)).trans (b6.mono (by first | omega | (simp; done) | (simp; omega))))
  have S6' := Lib.hid S6
  have s6 := B6.out.size
  have l6 := Y6.out.lt
  have q6 : n1 < w6.heap.size := by omega
  have yc := Y6.out.c0
  clear b6 X4 Y4 A4 S4 B4 S6 CO CA CB C1 CN
  go_wp2_with fail
  clear yc
  go_loopg [14, 15, 17, 18, 19, 20, 21] N.length (fun gg s14 s15 s17 _ _ _ _ wr => ∃ k : Nat, k ≤ N.length ∧ N.length - k ≤ gg ∧ s17 = .int .i64 k ∧ Aside (MInv w6 wr (mrgK o a b N k) (cflK o a b N k) s14 s15))
  case atStart => exact ⟨0, by omega, by omega, rfl, (show MInv _ _ _ _ _ _ from ⟨Below.refl _ _, ⟨rfl, .inl ⟨rfl, rfl⟩⟩, ⟨rfl, .inl ⟨rfl, rfl⟩⟩⟩)⟩
  case round =>
    obtain ⟨k, hk, hg, rfl, I⟩ := hrel
    have hs2 := I.out.B.size
    have hbw := B6.out.trans (I.out.B.mono s6)
    obtain ⟨yl, y0, y1, _, _⟩ := Y6.out.below I.out.B l6
    by_cases hlt : k < N.length
    · have hltz : (k : Int) < (N.length : Int) := by omega
      have hk0 : (0 : Int) ≤ (k : Int) := Int.natCast_nonneg _
      obtain ⟨bn, off, rfl, hb, hj⟩ := S6'.out.spot (by omega)
      have hbr : bn < wr.heap.size := by omega
      have g0 := (I.out.B.cell (p := ⟨bn, off + k, none⟩) hb).trans (hj k hlt)
      clear hj
      have HMS := Lib.hid (mrgK_succ (o := o) (a := a) (b := b) hlt)
      have HCS := Lib.hid (cflK_succ (o := o) (a := a) (b := b) hlt)
      have hnf := HNF.out (N.getD k ByteArray.empty) (by rw [strD hlt]; exact List.getElem_mem hlt)
      have hKL := mrgK_len o a b N k hk
      have hCL := cflK_len o a b N k hk
      have hMF := mrgV_fits (o := o) H1.out.fits H2.out.fits (N.getD k ByteArray.empty)
      generalize N.getD k ByteArray.empty = nm at *
      have cO := HVO.out wr nm hbw
      have cA := HVA.out wr nm hbw
      have cB := HVB.out wr nm hbw
      have HM1 := Lib.hid (show mrg1 o a b nm = presA ⟨nm, mrgV (getA o nm) (getA a nm) (getA b nm)⟩ from rfl)
      have HC1 := Lib.hid (show cfl1 o a b nm = if cfl (getA o nm) (getA a nm) (getA b nm) = true then [nm] else [] from rfl)
      generalize getA o nm = go at *
      generalize getA a nm = ga at *
      generalize getA b nm = gb at *
      have NF := Lib.hid hnf
      by_cases h1 : ga = go
      · subst h1
        have e1 : mrgV ga ga gb = gb := by unfold mrgV; rw [if_pos rfl]
        have HCF := Lib.hid (show cfl ga ga gb = false by unfold cfl; simp)
        rw [e1] at hMF HM1
        have t1 : (ga.toList == ga.toList) = true := by simp
        by_cases hve : gb = ByteArray.empty
        · have tz : gb.toList.isEmpty = true := by rw [isEmpty_str]; simpa using hve
          have HPR := Lib.hid (presA_none (a := ⟨nm, gb⟩) hve)
          clear hve
          have MF := Lib.hid hMF
          go_wp2_with fail
          refine cO.mono ?_
          rintro e wx ⟨rfl, hw⟩
          have hw2 := hw.symm
          subst hw2
          go_wp2_with fail
          refine cA.mono ?_
          rintro e wx ⟨rfl, hw⟩
          have hw2 := hw.symm
          subst hw2
          go_wp2_with fail
          refine cB.mono ?_
          rintro e wx ⟨rfl, hw⟩
          have hw2 := hw.symm
          subst hw2
          go_wp2
          go_roundg (N.length - (k + 1))
          case measure => omega
          case rel => exact ⟨k + 1, by omega, by omega, by go_num, (show MInv _ _ _ _ _ _ from by rw [HMS.out, HCS.out, HM1.out, HC1.out, HCF.out, HPR.out]; simpa using I.out)⟩
        · have tz : gb.toList.isEmpty = false := by rw [isEmpty_str]; simpa using hve
          have HPR := Lib.hid (presA_one (a := ⟨nm, gb⟩) hve)
          clear hve
          have MF := Lib.hid hMF
          have OA := Lib.hid (I.out.below ((Below.refl wr.heap.size wr).alloc (Nat.le_refl _) (.cells #[.string nm, .string gb] 27)))
          go_wp2_with fail
          refine cO.mono ?_
          rintro e wx ⟨rfl, hw⟩
          have hw2 := hw.symm
          subst hw2
          go_wp2_with fail
          refine cA.mono ?_
          rintro e wx ⟨rfl, hw⟩
          have hw2 := hw.symm
          subst hw2
          go_wp2_with fail
          refine cB.mono ?_
          rintro e wx ⟨rfl, hw⟩
          have hw2 := hw.symm
          subst hw2
          go_wp2_with (at_builtin; first | (refine wpList_append_attrs rfl (.tmp 118) (.tmp 125) rfl w6.heap.size u14 _ (mrgK o a b N k) rfl OA.out.own _ (.slice (some ⟨wr.heap.size, 0, none⟩) 1 1) [⟨nm, gb⟩] rfl (ats_one wr _ rfl ⟨nm, gb⟩ ⟨NF.out, MF.out⟩ 27) (by first | omega | (simp; done) | (simp; omega)) (by first | omega | (simp; done) | (simp; omega)) ?_; intro v8 w8 hown8 hg8; have I8 := Lib.hid (OA.out.lay hown8 hg8 (by simp)); clear hown8 hg8) | fail)
          go_wp2
          go_roundg (N.length - (k + 1))
          case measure => omega
          case rel => exact ⟨k + 1, by omega, by omega, by go_num, (show MInv _ _ _ _ _ _ from by rw [HMS.out, HCS.out, HM1.out, HC1.out, HCF.out, HPR.out]; simpa using I8.out)⟩
      · have e1 : mrgV go ga gb = ga := by unfold mrgV; rw [if_neg h1]
        rw [e1] at hMF HM1
        have t1 : (ga.toList == go.toList) = false := by rw [beq_str]; simpa using h1
        by_cases h2 : gb = go
        · have HCF := Lib.hid (show cfl go ga gb = false by unfold cfl; rw [decide_eq_false_iff_not]; exact fun h => h.2.1 h2)
          have t2 : (gb.toList == go.toList) = true := by rw [beq_str]; simpa using h2
          clear h1 h2 e1
          by_cases hve : ga = ByteArray.empty
          · have tz : ga.toList.isEmpty = true := by rw [isEmpty_str]; simpa using hve
            have HPR := Lib.hid (presA_none (a := ⟨nm, ga⟩) hve)
            clear hve
            have MF := Lib.hid hMF
            go_wp2_with fail
            refine cO.mono ?_
            rintro e wx ⟨rfl, hw⟩
            have hw2 := hw.symm
            subst hw2
            go_wp2_with fail
            refine cA.mono ?_
            rintro e wx ⟨rfl, hw⟩
            have hw2 := hw.symm
            subst hw2
            go_wp2_with fail
            refine cB.mono ?_
            rintro e wx ⟨rfl, hw⟩
            have hw2 := hw.symm
            subst hw2
            go_wp2
            go_roundg (N.length - (k + 1))
            case measure => omega
            case rel => exact ⟨k + 1, by omega, by omega, by go_num, (show MInv _ _ _ _ _ _ from by rw [HMS.out, HCS.out, HM1.out, HC1.out, HCF.out, HPR.out]; simpa using I.out)⟩
          · have tz : ga.toList.isEmpty = false := by rw [isEmpty_str]; simpa using hve
            have HPR := Lib.hid (presA_one (a := ⟨nm, ga⟩) hve)
            clear hve
            have MF := Lib.hid hMF
            have OA := Lib.hid (I.out.below ((Below.refl wr.heap.size wr).alloc (Nat.le_refl _) (.cells #[.string nm, .string ga] 27)))
            go_wp2_with fail
            refine cO.mono ?_
            rintro e wx ⟨rfl, hw⟩
            have hw2 := hw.symm
            subst hw2
            go_wp2_with fail
            refine cA.mono ?_
            rintro e wx ⟨rfl, hw⟩
            have hw2 := hw.symm
            subst hw2
            go_wp2_with fail
            refine cB.mono ?_
            rintro e wx ⟨rfl, hw⟩
            have hw2 := hw.symm
            subst hw2
            go_wp2_with (at_builtin; first | (refine wpList_append_attrs rfl (.tmp 118) (.tmp 125) rfl w6.heap.size u14 _ (mrgK o a b N k) rfl OA.out.own _ (.slice (some ⟨wr.heap.size, 0, none⟩) 1 1) [⟨nm, ga⟩] rfl (ats_one wr _ rfl ⟨nm, ga⟩ ⟨NF.out, MF.out⟩ 27) (by first | omega | (simp; done) | (simp; omega)) (by first | omega | (simp; done) | (simp; omega)) ?_; intro v8 w8 hown8 hg8; have I8 := Lib.hid (OA.out.lay hown8 hg8 (by simp)); clear hown8 hg8) | fail)
            go_wp2
            go_roundg (N.length - (k + 1))
            case measure => omega
            case rel => exact ⟨k + 1, by omega, by omega, by go_num, (show MInv _ _ _ _ _ _ from by rw [HMS.out, HCS.out, HM1.out, HC1.out, HCF.out, HPR.out]; simpa using I8.out)⟩
        · have t2 : (gb.toList == go.toList) = false := by rw [beq_str]; simpa using h2
          by_cases h3 : ga = gb
          · have HCF := Lib.hid (show cfl go ga gb = false by unfold cfl; rw [decide_eq_false_iff_not]; exact fun h => h.2.2 h3)
            have t3 : (ga.toList == gb.toList) = true := by rw [beq_str]; simpa using h3
            clear h1 h2 h3 e1
            by_cases hve : ga = ByteArray.empty
            · have tz : ga.toList.isEmpty = true := by rw [isEmpty_str]; simpa using hve
              have HPR := Lib.hid (presA_none (a := ⟨nm, ga⟩) hve)
              clear hve
              have MF := Lib.hid hMF
              go_wp2_with fail
              refine cO.mono ?_
              rintro e wx ⟨rfl, hw⟩
              have hw2 := hw.symm
              subst hw2
              go_wp2_with fail
              refine cA.mono ?_
              rintro e wx ⟨rfl, hw⟩
              have hw2 := hw.symm
              subst hw2
              go_wp2_with fail
              refine cB.mono ?_
              rintro e wx ⟨rfl, hw⟩
              have hw2 := hw.symm
              subst hw2
              go_wp2
              go_roundg (N.length - (k + 1))
              case measure => omega
              case rel => exact ⟨k + 1, by omega, by omega, by go_num, (show MInv _ _ _ _ _ _ from by rw [HMS.out, HCS.out, HM1.out, HC1.out, HCF.out, HPR.out]; simpa using I.out)⟩
            · have tz : ga.toList.isEmpty = false := by rw [isEmpty_str]; simpa using hve
              have HPR := Lib.hid (presA_one (a := ⟨nm, ga⟩) hve)
              clear hve
              have MF := Lib.hid hMF
              have OA := Lib.hid (I.out.below ((Below.refl wr.heap.size wr).alloc (Nat.le_refl _) (.cells #[.string nm, .string ga] 27)))
              go_wp2_with fail
              refine cO.mono ?_
              rintro e wx ⟨rfl, hw⟩
              have hw2 := hw.symm
              subst hw2
              go_wp2_with fail
              refine cA.mono ?_
              rintro e wx ⟨rfl, hw⟩
              have hw2 := hw.symm
              subst hw2
              go_wp2_with fail
              refine cB.mono ?_
              rintro e wx ⟨rfl, hw⟩
              have hw2 := hw.symm
              subst hw2
              go_wp2_with (at_builtin; first | (refine wpList_append_attrs rfl (.tmp 118) (.tmp 125) rfl w6.heap.size u14 _ (mrgK o a b N k) rfl OA.out.own _ (.slice (some ⟨wr.heap.size, 0, none⟩) 1 1) [⟨nm, ga⟩] rfl (ats_one wr _ rfl ⟨nm, ga⟩ ⟨NF.out, MF.out⟩ 27) (by first | omega | (simp; done) | (simp; omega)) (by first | omega | (simp; done) | (simp; omega)) ?_; intro v8 w8 hown8 hg8; have I8 := Lib.hid (OA.out.lay hown8 hg8 (by simp)); clear hown8 hg8) | fail)
              go_wp2
              go_roundg (N.length - (k + 1))
              case measure => omega
              case rel => exact ⟨k + 1, by omega, by omega, by go_num, (show MInv _ _ _ _ _ _ from by rw [HMS.out, HCS.out, HM1.out, HC1.out, HCF.out, HPR.out]; simpa using I8.out)⟩
          · have HCF := Lib.hid (show cfl go ga gb = true by unfold cfl; rw [decide_eq_true_iff]; exact ⟨h1, h2, h3⟩)
            have t3 : (ga.toList == gb.toList) = false := by rw [beq_str]; simpa using h3
            clear h1 h2 h3 e1
            by_cases hve : ga = ByteArray.empty
            · have tz : ga.toList.isEmpty = true := by rw [isEmpty_str]; simpa using hve
              have HPR := Lib.hid (presA_none (a := ⟨nm, ga⟩) hve)
              clear hve
              have MF := Lib.hid hMF
              have OS := Lib.hid (I.out.below ((Below.refl wr.heap.size wr).alloc (Nat.le_refl _) (.cells #[.string nm] 9)))
              go_wp2_with fail
              refine cO.mono ?_
              rintro e wx ⟨rfl, hw⟩
              have hw2 := hw.symm
              subst hw2
              go_wp2_with fail
              refine cA.mono ?_
              rintro e wx ⟨rfl, hw⟩
              have hw2 := hw.symm
              subst hw2
              go_wp2_with fail
              refine cB.mono ?_
              rintro e wx ⟨rfl, hw⟩
              have hw2 := hw.symm
              subst hw2
              go_wp2_with (at_builtin; first | (refine wpList_append_str rfl (.tmp 109) (.tmp 114) rfl w6.heap.size u15 _ _ rfl OS.out.ows wr.heap.size nm rfl (by simp) (by first | omega | (simp; done) | (simp; omega)) (by first | omega | (simp; done) | (simp; omega)) ?_; intro v7 w7 hown7 hg7; have I7 := Lib.hid (OS.out.says hown7 hg7 (by simp)); have hs7 := I7.out.B.size; have g0 : w7.cell? ⟨bn, off + k, none⟩ = some (.string nm) := cellg hg7 (by have h9 := ((Below.refl wr.heap.size wr).alloc (Nat.le_refl _) (.cells #[.string nm] 9)).cell (p := ⟨bn, off + k, none⟩) hbr; exact h9.trans g0) (by first | omega | (simp; done) | (simp; omega)) (fun e => by have h9 : w6.heap.size ≤ bn := (OS.out.ows.lt bn e.symm).1; omega); clear hown7 hg7) | fail)
              go_wp2
              go_roundg (N.length - (k + 1))
              case measure => omega
              case rel => exact ⟨k + 1, by omega, by omega, by go_num, (show MInv _ _ _ _ _ _ from by rw [HMS.out, HCS.out, HM1.out, HC1.out, HCF.out, HPR.out]; simpa using I7.out)⟩
            · have tz : ga.toList.isEmpty = false := by rw [isEmpty_str]; simpa using hve
              have HPR := Lib.hid (presA_one (a := ⟨nm, ga⟩) hve)
              clear hve
              have MF := Lib.hid hMF
              have OS := Lib.hid (I.out.below ((Below.refl wr.heap.size wr).alloc (Nat.le_refl _) (.cells #[.string nm] 9)))
              go_wp2_with fail
              refine cO.mono ?_
              rintro e wx ⟨rfl, hw⟩
              have hw2 := hw.symm
              subst hw2
              go_wp2_with fail
              refine cA.mono ?_
              rintro e wx ⟨rfl, hw⟩
              have hw2 := hw.symm
              subst hw2
              go_wp2_with fail
              refine cB.mono ?_
              rintro e wx ⟨rfl, hw⟩
              have hw2 := hw.symm
              subst hw2
              go_wp2_with (at_builtin; first | (refine wpList_append_str rfl (.tmp 109) (.tmp 114) rfl w6.heap.size u15 _ _ rfl OS.out.ows wr.heap.size nm rfl (by simp) (by first | omega | (simp; done) | (simp; omega)) (by first | omega | (simp; done) | (simp; omega)) ?_; intro v7 w7 hown7 hg7; have I7 := Lib.hid (OS.out.says hown7 hg7 (by simp)); have hs7 := I7.out.B.size; have g0 : w7.cell? ⟨bn, off + k, none⟩ = some (.string nm) := cellg hg7 (by have h9 := ((Below.refl wr.heap.size wr).alloc (Nat.le_refl _) (.cells #[.string nm] 9)).cell (p := ⟨bn, off + k, none⟩) hbr; exact h9.trans g0) (by first | omega | (simp; done) | (simp; omega)) (fun e => by have h9 : w6.heap.size ≤ bn := (OS.out.ows.lt bn e.symm).1; omega); have OA := Lib.hid (I7.out.below ((Below.refl w7.heap.size w7).alloc (Nat.le_refl _) (.cells #[.string nm, .string ga] 27))); clear hown7 hg7) | (refine wpList_append_attrs rfl (.tmp 118) (.tmp 125) rfl w6.heap.size u14 _ (mrgK o a b N k) rfl OA.out.own _ (.slice (some ⟨w7.heap.size, 0, none⟩) 1 1) [⟨nm, ga⟩] rfl (ats_one w7 _ rfl ⟨nm, ga⟩ ⟨NF.out, MF.out⟩ 27) (by first | omega | (simp; done) | (simp; omega)) (by first | omega | (simp; done) | (simp; omega)) ?_; intro v8 w8 hown8 hg8; have I8 := Lib.hid (OA.out.lay hown8 hg8 (by simp)); clear hown8 hg8) | fail)
              go_wp2
              go_roundg (N.length - (k + 1))
              case measure => omega
              case rel => exact ⟨k + 1, by omega, by omega, by go_num, (show MInv _ _ _ _ _ _ from by rw [HMS.out, HCS.out, HM1.out, HC1.out, HCF.out, HPR.out]; simpa using I8.out)⟩
    · have hltz : decide ((k : Int) < (N.length : Int)) = false := by simp; omega
      obtain rfl : k = N.length := by omega
      have IM := I.out
      rw [← HML.out, ← HCL.out] at IM
      have hmf : ∀ e ∈ mrgL o a b, e.fits := by rw [HML.out]; exact mrgK_fits H1.out.fits H2.out.fits HNF.out _
      have hml : (mrgL o a b).length ≤ N.length := by rw [HML.out]; exact mrgK_len o a b N _ (Nat.le_refl _)
      have hcf : ∀ x ∈ cflL o a b, x.size ≤ maxLen := by rw [HCL.out]; exact cflK_fits HNF.out _
      have hcl : (cflL o a b).length ≤ N.length := by rw [HCL.out]; exact cflK_len o a b N _ (Nat.le_refl _)
      have hbs := hbw.size
      have XR := X6.out.below I.out.B q6
      have YR := Y6.out.below I.out.B l6
      have HW := Lib.hid (ats_own IM.own hmf (by omega))
      have HS := Lib.hid (own_strs IM.ows hcf (by omega))
      obtain ⟨aw, cw, rfl, _⟩ := HW.out.form rfl
      obtain ⟨ax, cx, rfl, _⟩ := HS.out.form rfl
      have BR := Lib.hid I.out.B
      clear I IM hmf hcf
      rcases WAY.out with ⟨rfl, hl, hm0, hc0'⟩ | ⟨rfl, hl, hm0, hc0'⟩
      · have hlz : (6 : Int) < ((mrgL o a b).length : Int) := by omega
        rw [hm0] at A6
        rw [hc0'] at T6
        clear hl HW HS A6 T6
        go_wp2_with fail
        refine (newFault_any _ _ _).mono ?_
        rintro e w7 ⟨rfl, b7⟩
        have X7 := XR.below b7 XR.lt
        have Y7 := YR.below b7 YR.lt
        have B7 : Below w.heap.size w w7 := hbw.trans (b7.mono hbs)
        have s7 := B7.size
        have l7 := Y7.lt
        clear b7 XR YR y0 y1
        obtain ⟨_, y0, y1, yf0, yf1⟩ := Y7
        go_wp2_with fail
        refine (CM.out _ _ ((ats_one _ _ (by first | omega | (simp; done) | (simp; omega)) ⟨bA, bB⟩ ⟨bA_fits, bB_fits⟩ _).more (by first | omega | (simp; done) | (simp; omega)))).mono ?_
        rintro e w8 ⟨a8, c8, u8, rfl, b8⟩
        have hne : n1 ≠ n2 := by omega
        have X8 := (((X7.far (p := ⟨n2, 0, none⟩) hne (.int .i64 14)).far (p := ⟨n2, 1, none⟩) hne (.int .i64 0)).alloc (.cells #[.string bA, .string bB] 27)).below b8 (by first | omega | (simp; done) | (simp; omega))
        have Y8 := ((FBox.put ⟨l7, y0, y1, yf0, yf1⟩ 14 0).alloc (.cells #[.string bA, .string bB] 27)).below b8 (by first | omega | (simp; done) | (simp; omega))
        have B8 : Below w.heap.size w w8 := (((B7.setCell (by first | omega | (simp; done) | (simp; omega)) _).setCell (by first | omega | (simp; done) | (simp; omega)) _).alloc (by first | omega | (simp; done) | (simp; omega)) _).trans (b8.mono (by first | omega | (simp; done) | (simp; omega)))
        have s8 := B8.size
        have l8 := Y8.lt
        have m8 := X8.lt
        clear b8 X7 y0 y1 yf0 yf1 B7
        obtain ⟨_, x0, x1, _, _⟩ := X8
        obtain ⟨_, y0, y1, _, _⟩ := Y8
        go_wp2
        go_ret
        refine ⟨by first | rfl | simp [hm0, hc0'], ?_⟩
        repeat (first | exact B8 | refine below_drewN ?_ _ | refine Below.alloc ?_ (by first | omega | (simp; done) | (simp; omega)) _)
      · have hlz : decide ((6 : Int) < ((mrgL o a b).length : Int)) = false := by simp; omega
        rw [hm0] at A6
        rw [hc0'] at T6
        go_wp2_with fail
        refine (CM.out _ _ ((ats_one _ _ (by first | omega | (simp; done) | (simp; omega)) ⟨bA, bB⟩ ⟨bA_fits, bB_fits⟩ _).more (by first | omega | (simp; done) | (simp; omega)))).mono ?_
        rintro e w8 ⟨a8, c8, u8, rfl, b8⟩
        have X8 := (XR.alloc (.cells #[.string bA, .string bB] 27)).below b8 (by have := XR.lt; first | omega | (simp; done) | (simp; omega))
        have Y8 := (YR.alloc (.cells #[.string bA, .string bB] 27)).below b8 (by have := YR.lt; first | omega | (simp; done) | (simp; omega))
        have B8 : Below w.heap.size w w8 := (hbw.alloc (by first | omega | (simp; done) | (simp; omega)) _).trans (b8.mono (by first | omega | (simp; done) | (simp; omega)))
        have M8 := Lib.hid ((((A6.out.below (BR.out.mono (by omega))).alloc (by omega) (.cells #[.string bA, .string bB] 27)).below (b8.mono (by first | omega | (simp; done) | (simp; omega)))).alloc (by have h9 := b8.size; simp at h9; first | omega | (simp; done) | (simp; omega)) (.cells #[.int .i64 0, .int .i64 0] 24))
        have W8 := Lib.hid (((HW.out.alloc (Nat.le_refl _) (.cells #[.string bA, .string bB] 27)).below (b8.mono (by first | omega | (simp; done) | (simp; omega)))).alloc (by have h9 := b8.size; simp at h9; first | omega | (simp; done) | (simp; omega)) (.cells #[.int .i64 0, .int .i64 0] 24))
        have L8 := Lib.hid ((((T6.out.below (BR.out.mono (by omega))).alloc (by omega) (.cells #[.string bA, .string bB] 27)).below (b8.mono (by first | omega | (simp; done) | (simp; omega)))).alloc (by have h9 := b8.size; simp at h9; first | omega | (simp; done) | (simp; omega)) (.cells #[.int .i64 0, .int .i64 0] 24))
        have V8 := Lib.hid (((HS.out.alloc (Nat.le_refl _) (.cells #[.string bA, .string bB] 27)).below (b8.mono (by first | omega | (simp; done) | (simp; omega)))).alloc (by have h9 := b8.size; simp at h9; first | omega | (simp; done) | (simp; omega)) (.cells #[.int .i64 0, .int .i64 0] 24))
        have s8 := B8.size
        have l8 := Y8.lt
        have m8 := X8.lt
        clear b8 XR YR A6 T6 HW HS hl
        obtain ⟨_, x0, x1, _, _⟩ := X8
        clear y0 y1
        obtain ⟨_, y0, y1, _, _⟩ := Y8
        go_wp2_with fail
        refine (attrsSame_any _ _ (mrgL o a b) _ _ _ M8.out W8.out).mono ?_
        rintro e w9 ⟨rfl, q, rfl⟩
        go_wp2_with fail
        refine (strsSame_any _ _ (cflL o a b) _ _ _ (L8.out.drewN q) (V8.out.drewN q)).mono ?_
        rintro e w10 ⟨rfl, q2, rfl⟩
        go_wp2
        go_ret
        refine ⟨by first | rfl | simp, ?_⟩
        repeat (first | exact B8 | refine below_drewN ?_ _ | refine Below.alloc ?_ (by first | omega | (simp; done) | (simp; omega)) _)

end Go.Proofs.Ytgbmbhcoelijfaa
