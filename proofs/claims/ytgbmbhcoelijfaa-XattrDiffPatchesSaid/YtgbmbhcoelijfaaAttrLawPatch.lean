/- The law XattrDiffPatches returns true at every two lists. Conditions: the slices' cells lie in memory as they read. -/
import Derived.Test.YtgbmbhcoelijfaaAttrPatch
import Derived.Test.YtgbmbhcoelijfaaAttrLawDiff0
import Derived.Test.YtgbmbhcoelijfaaAttrSame
namespace Go.Proofs.Ytgbmbhcoelijfaa
open Go.RowKit

def PatS (a b : List Attr) (k : Nat) (now : List Attr) : Prop := (k = 0 ∧ PatI a b 0 0 now) ∨ (k = 1 ∧ PatI a b 1 0 now) ∨ (k = 2 ∧ now = b)

set_option maxRecDepth 100000 in
set_option maxHeartbeats 2000000 in
theorem lawPatch_any (v1 : Value) (a : List Attr) (v2 : Value) (b : List Attr) (w : World) (h1 : Ats w w.heap.size v1 a) (h2 : Ats w w.heap.size v2 b) :
    Calls Try.prog 8 #[v1, v2] w fun e w' => e = .returned (.bool true) ∧ Below w.heap.size w w' := by
  have C1 := Lib.hid (diff_any v1 v2 a b w h1 h2)
  have CD := Lib.hid (fun W (v : Value) (h : Ats W W.heap.size v [⟨bA, bB⟩]) => diffOne_any v W h)
  have H1 := Lib.hid h1
  have H2 := Lib.hid h2
  obtain ⟨a1, c1, rfl, hc1⟩ := h1.form rfl
  obtain ⟨a2, c2, rfl, hc2⟩ := h2.form rfl
  clear h1 h2
  unfold DiffPost faultV at C1
  unfold OneDiff at CD
  by_cases hv : (chkF [a, b]).1 = 0
  rotate_left
  · have HF := Lib.hid (show chkF [a, b] = ((chkF [a, b]).1, (chkF [a, b]).2) from rfl)
    have HO := Lib.hid (show diffO a b = [] by unfold diffO; rw [if_neg hv])
    generalize (chkF [a, b]).1 = d at *
    generalize (chkF [a, b]).2 = i at *
    have hd1 : (d != 0) = true := by simpa using hv
    have hd2 : (d == 0) = false := by simpa using hv
    clear hv
    go_enter Try.func8, Try.ntmps8
    go_wp2_with fail
    refine C1.out.mono ?_
    rintro e w1 ⟨vd, rfl, A1, b1⟩
    try rw [HF.out]
    rw [HO.out] at A1
    obtain ⟨am, cm, rfl, _⟩ := A1.form rfl
    have s1 := b1.size
    go_wp2_with fail
    refine (CD.out _ _ ((ats_one _ _ (by first | omega | (simp; done) | (simp; omega)) ⟨bA, bB⟩ ⟨bA_fits, bB_fits⟩ _).more (by first | omega | (simp; done) | (simp; omega)))).mono ?_
    rintro e w2 ⟨a5, c5, rfl, b2⟩
    have X2 := ((FBox.new w1 d i 24).alloc (.cells #[.string bA, .string bB] 27)).below b2 (by first | omega | (simp; done) | (simp; omega))
    have A2 := ((A1.alloc (Nat.le_refl _) (.cells #[.int .i64 d, .int .i64 i] 24)).alloc (by first | omega | (simp; done) | (simp; omega)) (.cells #[.string bA, .string bB] 27)).below (b2.mono (by first | omega | (simp; done) | (simp; omega)))
    have B2 : Below w.heap.size w w2 := ((b1.alloc s1 _).alloc (by first | omega | (simp; done) | (simp; omega)) _).trans (b2.mono (by first | omega | (simp; done) | (simp; omega)))
    have s2 := B2.size
    have l2 := X2.lt
    clear b1 b2 A1
    generalize w1.heap.size = n1 at *
    clear A2
    obtain ⟨_, x0, x1, _, _⟩ := X2
    go_wp2
    go_ret
    refine ⟨by first | rfl | simp, ?_⟩
    repeat (first | exact B2 | refine below_drewN ?_ _ | refine Below.alloc ?_ (by first | omega | (simp; done) | (simp; omega)) _)
  obtain ⟨ga, gb, he⟩ := chk_two hv
  have GA := Lib.hid ga
  have GB := Lib.hid gb
  have HF := Lib.hid he
  have HO := Lib.hid (show diffO a b = diffL a b by unfold diffO; rw [if_pos hv])
  have CAA := Lib.hid (fun W (hb : Below w.heap.size w W) => by
    have h9 := diff_any _ _ a a W (H1.out.up hb) (H1.out.up hb)
    have e1 : chkF [a, a] = (0, 0) := chk_miss fun j hj => by
      match j, hj with
      | 0, _ => show (valA a).1 = 0; rw [ga.val]
      | 1, _ => show (valA a).1 = 0; rw [ga.val]
    have e2 : diffO a a = [] := by unfold diffO; rw [e1, if_pos rfl, diff_self]
    unfold DiffPost faultV at h9
    rw [e1, e2] at h9
    exact h9)
  have hdl : (diffL a b).length ≤ 1000 := by
    have h1 := names_len [a, b].flatten
    have h2 := diffK_len a b (namesB [a, b].flatten) (namesB [a, b].flatten).length (Nat.le_refl _)
    have h3 := ga.len
    have h4 := gb.len
    have h5 : [a, b].flatten.length = a.length + b.length := by simp
    unfold diffL
    omega
  clear ga gb he hv
  go_enter Try.func8, Try.ntmps8
  go_wp2_with fail
  refine C1.out.mono ?_
  rintro e w1 ⟨vd, rfl, A1, b1⟩
  try rw [HF.out]
  rw [HO.out] at A1
  obtain ⟨am, cm, rfl, _⟩ := A1.form rfl
  have s1 := b1.size
  go_wp2_with fail
  refine (CD.out _ _ ((ats_one _ _ (by first | omega | (simp; done) | (simp; omega)) ⟨bA, bB⟩ ⟨bA_fits, bB_fits⟩ _).more (by first | omega | (simp; done) | (simp; omega)))).mono ?_
  rintro e w2 ⟨a5, c5, rfl, b2⟩
  have X2 := ((FBox.new w1 0 0 24).alloc (.cells #[.string bA, .string bB] 27)).below b2 (by first | omega | (simp; done) | (simp; omega))
  have A2 := ((A1.alloc (Nat.le_refl _) (.cells #[.int .i64 0, .int .i64 0] 24)).alloc (by first | omega | (simp; done) | (simp; omega)) (.cells #[.string bA, .string bB] 27)).below (b2.mono (by first | omega | (simp; done) | (simp; omega)))
  have B2 : Below w.heap.size w w2 := ((b1.alloc s1 _).alloc (by first | omega | (simp; done) | (simp; omega)) _).trans (b2.mono (by first | omega | (simp; done) | (simp; omega)))
  have s2 := B2.size
  have l2 := X2.lt
  clear b1 b2 A1
  generalize w1.heap.size = n1 at *
  obtain ⟨_, x0, x1, _, _⟩ := X2
  have AD := Lib.hid A2
  have BB := Lib.hid B2
  have q2 : n1 ≤ w2.heap.size := by omega
  clear A2 B2
  go_wp2_with fail
  have ST := Lib.hid (show PatS a b 0 a from .inl ⟨rfl, pat_start GA.out⟩)
  clear x0 x1
  go_loopg [9, 10, 11, 12, 13] 2 (fun gg s9 s10 _ _ _ wr => ∃ (k : Nat) (now : List Attr), k ≤ 2 ∧ 2 - k ≤ gg ∧ s10 = .int .i64 k ∧ Aside (PatS a b k now) ∧ Aside (Ats wr wr.heap.size s9 now) ∧ Aside (Below w2.heap.size w2 wr))
  case atStart => exact ⟨0, a, by omega, by omega, rfl, ST.out, (show Ats _ _ _ _ from (H1.out.up (BB.out.alloc BB.out.size _))), (Below.refl _ _).alloc (Nat.le_refl _) _⟩
  case round =>
    obtain ⟨k, now, hk, hg, rfl, PS, AN, BW⟩ := hrel
    clear ST
    by_cases hk2 : k < 2
    · have hkz : (k : Int) < 2 := by omega
      have hpi : PatI a b k 0 now := by
        rcases PS.out with ⟨rfl, h⟩ | ⟨rfl, h⟩ | ⟨rfl, _⟩
        · exact h
        · exact h
        · omega
      have HPI0 := Lib.hid hpi
      have AN0 := Lib.hid AN.out
      have hkc : ((k : Int) == 0) = decide (k = 0) := by rw [Bool.eq_iff_iff]; simp
      clear hpi PS AN
      go_wp2_with fail
      go_loopg [9, 11, 12, 13] (diffL a b).length (fun gg s9 s11 _ _ wq => ∃ (i : Nat) (now : List Attr), i ≤ (diffL a b).length ∧ (diffL a b).length - i ≤ gg ∧ s11 = .int .i64 i ∧ Aside (PatI a b k i now) ∧ Aside (Ats wq wq.heap.size s9 now) ∧ Aside (Below w2.heap.size w2 wq))
      case atStart => exact ⟨0, now, by omega, by omega, rfl, HPI0.out, AN0.out, BW.out⟩
      case round =>
        clear HPI0 AN0 now
        obtain ⟨i, now, hi, hgi, rfl, PI, AN, BQ⟩ := hrel
        have hsq := BQ.out.size
        by_cases hlt : i < (diffL a b).length
        · have hltz : (i : Int) < ((diffL a b).length : Int) := by omega
          obtain ⟨bd, od, rfl, hbd, hj⟩ := AD.out.spot (by omega)
          have g0 := (BQ.out.cell (p := ⟨bd, od + i * 2, none⟩) (by first | omega | (simp; done) | (simp; omega))).trans (hj i hlt).1
          have g1 := (BQ.out.cell (p := ⟨bd, od + i * 2 + 1, none⟩) (by first | omega | (simp; done) | (simp; omega))).trans (hj i hlt).2
          have hfit := AD.out.fits _ (atD_mem hlt)
          clear hj
          generalize hy : (diffL a b).getD i A0 = e at g0 g1 hfit
          obtain ⟨x, y⟩ := e
          have Y := Lib.hid hy
          have FT := Lib.hid hfit
          clear hy hfit
          by_cases hz : y = ByteArray.empty
          · have hb1 : y.toList.isEmpty = true := by rw [isEmpty_str]; simpa using hz
            by_cases hk0 : k = 0
            · rw [decide_eq_true hk0] at hkc
              have hst := pat_step (by omega) GA.out GB.out PI.out hlt (by rw [Y.out]; unfold sel; simp [hz, hk0])
              rw [Y.out] at hst
              obtain ⟨hsf, hpi⟩ := hst
              have hso : setO now ⟨x, y⟩ = setL now ⟨x, y⟩ := by unfold setO; rw [hsf, if_pos rfl]
              have HSET := Lib.hid (show Calls Try.prog 15 #[u9, .agg #[.string x, .string y]] wr (fun e w' => ∃ v, e = .returned (.tuple #[v, .agg #[.int .i64 0, .int .i64 0]]) ∧ Ats w' w'.heap.size v (setL now ⟨x, y⟩) ∧ Below wr.heap.size wr w') from (set_any u9 now x y wr AN.out FT.out).mono fun e w' ⟨v, he, hA, hb⟩ => ⟨v, by rw [he, hsf]; rfl, by rwa [hso] at hA, hb⟩)
              have HPI := Lib.hid hpi
              clear hsf hpi hso hz hk0
              go_wp2_with fail
              refine HSET.out.mono ?_
              rintro e w5 ⟨v5, rfl, A5, b5⟩
              have s5 := b5.size
              have A6 := Lib.hid ((A5.alloc (Nat.le_refl _) (.cells #[.int .i64 0, .int .i64 0] 24)).more (B' := w5.heap.size + 1) (by omega))
              have B6 := Lib.hid ((BQ.out.trans (b5.mono BQ.out.size)).alloc (by first | omega | (simp; done) | (simp; omega)) (.cells #[.int .i64 0, .int .i64 0] 24))
              clear A5 b5 HSET g0 g1
              go_wp2
              go_roundg ((diffL a b).length - (i + 1))
              case measure => omega
              case rel => exact ⟨i + 1, setL now ⟨x, y⟩, by omega, by omega, by go_num, HPI.out, (show Ats _ _ _ _ from by simpa using A6.out), B6.out⟩
            · rw [decide_eq_false hk0] at hkc
              have HPI := Lib.hid (pat_skip PI.out (by rw [Y.out]; unfold sel; simp [hz, hk0]))
              clear hz hk0
              go_wp2
              go_roundg ((diffL a b).length - (i + 1))
              case measure => omega
              case rel => exact ⟨i + 1, now, by omega, by omega, by go_num, HPI.out, AN.out, BQ.out⟩
          · have hb1 : y.toList.isEmpty = false := by rw [isEmpty_str]; simpa using hz
            by_cases hk0 : k = 0
            · rw [decide_eq_true hk0] at hkc
              have HPI := Lib.hid (pat_skip PI.out (by rw [Y.out]; unfold sel; simp [hz, hk0]))
              clear hz hk0
              go_wp2
              go_roundg ((diffL a b).length - (i + 1))
              case measure => omega
              case rel => exact ⟨i + 1, now, by omega, by omega, by go_num, HPI.out, AN.out, BQ.out⟩
            · rw [decide_eq_false hk0] at hkc
              have hst := pat_step (by omega) GA.out GB.out PI.out hlt (by rw [Y.out]; unfold sel; simp [hz, hk0])
              rw [Y.out] at hst
              obtain ⟨hsf, hpi⟩ := hst
              have hso : setO now ⟨x, y⟩ = setL now ⟨x, y⟩ := by unfold setO; rw [hsf, if_pos rfl]
              have HSET := Lib.hid (show Calls Try.prog 15 #[u9, .agg #[.string x, .string y]] wr (fun e w' => ∃ v, e = .returned (.tuple #[v, .agg #[.int .i64 0, .int .i64 0]]) ∧ Ats w' w'.heap.size v (setL now ⟨x, y⟩) ∧ Below wr.heap.size wr w') from (set_any u9 now x y wr AN.out FT.out).mono fun e w' ⟨v, he, hA, hb⟩ => ⟨v, by rw [he, hsf]; rfl, by rwa [hso] at hA, hb⟩)
              have HPI := Lib.hid hpi
              clear hsf hpi hso hz hk0
              go_wp2_with fail
              refine HSET.out.mono ?_
              rintro e w5 ⟨v5, rfl, A5, b5⟩
              have s5 := b5.size
              have A6 := Lib.hid ((A5.alloc (Nat.le_refl _) (.cells #[.int .i64 0, .int .i64 0] 24)).more (B' := w5.heap.size + 1) (by omega))
              have B6 := Lib.hid ((BQ.out.trans (b5.mono BQ.out.size)).alloc (by first | omega | (simp; done) | (simp; omega)) (.cells #[.int .i64 0, .int .i64 0] 24))
              clear A5 b5 HSET g0 g1
              go_wp2
              go_roundg ((diffL a b).length - (i + 1))
              case measure => omega
              case rel => exact ⟨i + 1, setL now ⟨x, y⟩, by omega, by omega, by go_num, HPI.out, (show Ats _ _ _ _ from by simpa using A6.out), B6.out⟩
        · have hltz : ¬ (i : Int) < ((diffL a b).length : Int) := by omega
          have hie : i = (diffL a b).length := by omega
          have HPS := Lib.hid (show PatS a b (k + 1) now from by
            rcases (show k = 0 ∨ k = 1 by omega) with hk0 | hk0
            · subst hk0; exact .inr (.inl ⟨rfl, pat_next hie PI.out⟩)
            · subst hk0; exact .inr (.inr ⟨rfl, pat_end GB.out hie PI.out⟩))
          clear hie
          go_wp2
          go_roundg (2 - (k + 1))
          case measure => omega
          case rel => exact ⟨k + 1, now, by omega, by omega, by go_num, HPS.out, AN.out, BQ.out⟩
    · obtain rfl : k = 2 := by omega
      have hnow : now = b := by
        rcases PS.out with ⟨h, _⟩ | ⟨h, _⟩ | ⟨_, h⟩
        · omega
        · omega
        · exact h
      subst hnow
      have hbw := BB.out.trans (BW.out.mono BB.out.size)
      go_wp2_with fail
      refine (CAA.out _ hbw).mono ?_
      rintro e w7 ⟨v7, rfl, A7, b7⟩
      obtain ⟨a7, c7, rfl, _⟩ := A7.form (n := 0) rfl
      have B7 := hbw.trans (b7.mono hbw.size)
      have s7 := B7.size
      go_wp2_with fail
      refine (attrsSame_any _ _ now _ _ _ ((AN.out.up b7).alloc (Nat.le_refl _) _) ((H2.out.up B7).alloc (Nat.le_refl _) _)).mono ?_
      rintro e w8 ⟨rfl, q, rfl⟩
      go_wp2
      go_ret
      refine ⟨by first | rfl | simp, ?_⟩
      repeat (first | exact B7 | refine below_drewN ?_ _ | refine Below.alloc ?_ (by first | omega | (simp; done) | (simp; omega)) _)

end Go.Proofs.Ytgbmbhcoelijfaa
