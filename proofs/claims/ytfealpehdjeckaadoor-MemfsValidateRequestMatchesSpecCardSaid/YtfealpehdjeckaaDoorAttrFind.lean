/- The binary search for a name, the value of a name, and the reference's linear search. Conditions: the slice's cells lie in memory as they read; the list is sorted by name where the theorem says so. -/
import Derived.Test.YtfealpehdjeckaaDoorAttrLeaves
import Derived.Deep.LoopGhost
import Derived.Deep.Draws
import Derived.BigQuiet
namespace Go.Proofs.YtfealpehdjeckaaDoor
open Go.RowKit

def Srt (xs : List Attr) : Prop := xs.Pairwise (fun a b => ltS a.n b.n = true)

set_option maxRecDepth 100000 in
set_option maxHeartbeats 1000000 in
theorem bsearch_any (v : Value) (xs : List Attr) (nm : ByteArray) (w : World) (h : Ats w w.heap.size v xs) (hs : Srt xs) :
    Calls Tryd.prog 33 #[v, .string nm, .func (.func 34) #[] #[]] w fun e w' => e = .returned (.tuple #[.int .i64 (lowB xs nm : Nat), .bool (fnd xs nm)]) ∧ Below w.heap.size w w' := by
  obtain ⟨a, c, rfl, hc, hl, hf, hx⟩ := h
  have eg := eg_find1
  have HX := Lib.hid hx
  have HS := Lib.hid hs
  have hl2 : xs.length ≤ 4611686018427387904 := by omega
  clear hx hf hs
  have FN0 : Hid (fnd xs nm = decide (lowB xs nm < xs.length ∧ (xs.getD (lowB xs nm) A0).n = nm)) := Lib.hid rfl
  generalize hp : lowB xs nm = p at *
  have HP := Lib.hid hp
  clear hp
  generalize fnd xs nm = q at *
  go_enter Tryd.func33, Tryd.ntmps33
  go_wp2
  go_loopg [9, 10] xs.length (fun gg s9 s10 wr => ∃ i j : Nat, i ≤ j ∧ j ≤ xs.length ∧ j - i ≤ gg ∧ s9 = .int .i64 i ∧ s10 = .int .i64 j ∧ Aside (Below w.heap.size w wr) ∧ Aside ((∀ k, k < i → ltS (xs.getD k A0).n nm = true) ∧ (∀ k, j ≤ k → k < xs.length → ltS (xs.getD k A0).n nm = false)))
  case atStart => exact ⟨0, xs.length, Nat.zero_le _, Nat.le_refl _, by omega, rfl, rfl, Below.refl _ w, (show _ ∧ _ from ⟨fun j hj => absurd hj (Nat.not_lt_zero _), fun k h1 h2 => absurd h1 (by omega)⟩)⟩
  case round =>
    obtain ⟨i, j, hij, hj, hg, rfl, rfl, BW, I⟩ := hrel
    by_cases hlt : i < j
    · have hm : (i + j) / 2 < xs.length := by omega
      obtain ⟨b, o, rfl, hb, hcell⟩ := HX.out (by omega)
      have g0 : wr.cell? ⟨b, o + (i + j) / 2 * 2, none⟩ = some (.string (xs.getD ((i + j) / 2) A0).n) := (BW.out.cell (p := ⟨b, _, none⟩) hb).trans (hcell _ hm).1
      have g1 : wr.cell? ⟨b, o + (i + j) / 2 * 2 + 1, none⟩ = some (.string (xs.getD ((i + j) / 2) A0).v) := (BW.out.cell (p := ⟨b, _, none⟩) hb).trans (hcell _ hm).2
      clear hcell
      generalize hy : xs.getD ((i + j) / 2) A0 = y at g0 g1
      obtain ⟨x, z⟩ := y
      have Y := Lib.hid hy
      clear hy
      have hcall := fun W => find1_any x z nm W
      have hq := cmpS_lt (a := x) (b := nm)
      generalize cmpS x nm = q at hcall hq
      have HQ := Lib.hid hq
      clear hq
      by_cases hq0 : q < 0
      · go_wp2_with (go_at_fn 34; refine (hcall _).mono ?_; rintro e w' ⟨rfl, hb'⟩)
        go_roundg (j - ((i + j) / 2 + 1))
        case measure => omega
        case rel =>
          have hlt2 := HQ.out.1 hq0
          have I2 : Aside ((∀ k, k < (i + j) / 2 + 1 → ltS (xs.getD k A0).n nm = true) ∧ (∀ k, j ≤ k → k < xs.length → ltS (xs.getD k A0).n nm = false)) := by
            refine (show _ ∧ _ from ⟨fun k hk => ?_, I.out.2⟩)
            by_cases e : k = (i + j) / 2
            · subst e; rw [Y.out]; exact hlt2
            · refine ltS_trans (srt_at HS.out (i := k) (j := (i + j) / 2) (by omega) hm) ?_
              rw [Y.out]; exact hlt2
          exact ⟨(i + j) / 2 + 1, j, by omega, hj, Nat.le_refl _, by rw [show ((i : Int) + (j : Int)) / 2 + 1 = (((i + j) / 2 + 1 : Nat) : Int) by omega], rfl, BW.out.trans (hb'.mono BW.out.size), I2⟩
      · go_wp2_with (go_at_fn 34; refine (hcall _).mono ?_; rintro e w' ⟨rfl, hb'⟩)
        go_roundg ((i + j) / 2 - i)
        case measure => omega
        case rel =>
          have hlt2 : ltS x nm = false := by
            cases hh : ltS x nm with
            | false => rfl
            | true => exact absurd (HQ.out.2 hh) (by omega)
          have I2 : Aside ((∀ k, k < i → ltS (xs.getD k A0).n nm = true) ∧ (∀ k, (i + j) / 2 ≤ k → k < xs.length → ltS (xs.getD k A0).n nm = false)) := by
            refine (show _ ∧ _ from ⟨I.out.1, fun k hk hkl => ?_⟩)
            by_cases e : k = (i + j) / 2
            · subst e; rw [Y.out]; exact hlt2
            · cases hh : ltS (xs.getD k A0).n nm with
              | false => rfl
              | true =>
                have := ltS_trans (srt_at HS.out (i := (i + j) / 2) (j := k) (by omega) hkl) hh
                rw [Y.out] at this
                simp only at this
                rw [hlt2] at this; cases this
          exact ⟨i, (i + j) / 2, by omega, by omega, Nat.le_refl _, rfl, by rw [show ((i : Int) + (j : Int)) / 2 = (((i + j) / 2 : Nat) : Int) by omega], BW.out.trans (hb'.mono BW.out.size), I2⟩
    · obtain rfl : i = j := by omega
      have ecnt := lowB_of hj I.out.1 I.out.2
      rw [HP.out] at ecnt
      subst ecnt
      have FN := FN0
      clear FN0
      by_cases hn : p < xs.length
      · have hnz : (p : Int) < (xs.length : Int) := by omega
        obtain ⟨b, o, rfl, hb, hcell⟩ := HX.out (by omega)
        have g0 : wr.cell? ⟨b, o + p * 2, none⟩ = some (.string (xs.getD p A0).n) := (BW.out.cell (p := ⟨b, _, none⟩) hb).trans (hcell _ hn).1
        have g1 : wr.cell? ⟨b, o + p * 2 + 1, none⟩ = some (.string (xs.getD p A0).v) := (BW.out.cell (p := ⟨b, _, none⟩) hb).trans (hcell _ hn).2
        clear hcell
        generalize hy : xs.getD p A0 = y at g0 g1 FN
        obtain ⟨x, z⟩ := y
        clear hy
        simp only [hn, true_and] at FN
        have hcall := fun W => find1_any x z nm W
        have hq := cmpS_eq (a := x) (b := nm)
        generalize cmpS x nm = r at hcall hq
        have HQ := Lib.hid hq
        clear hq
        by_cases hr : r = 0
        · have hr1 : (r == 0) = true := by simpa using hr
          have HR := Lib.hid (HQ.out.1 hr)
          clear hr
          go_wp2_with (go_at_fn 34; refine (hcall _).mono ?_; rintro e w' ⟨rfl, hb'⟩)
          go_ret2
          refine ⟨?_, BW.out.trans (hb'.mono BW.out.size)⟩
          rw [FN.out, decide_eq_true HR.out]
          first | rfl | simp
        · have hr1 : (r == 0) = false := by simpa using hr
          have HR := Lib.hid (fun e => hr (HQ.out.2 e))
          clear hr
          go_wp2_with (go_at_fn 34; refine (hcall _).mono ?_; rintro e w' ⟨rfl, hb'⟩)
          go_ret2
          refine ⟨?_, BW.out.trans (hb'.mono BW.out.size)⟩
          rw [FN.out, decide_eq_false HR.out]
          first | rfl | simp
      · have hnd : decide ((p : Int) < (xs.length : Int)) = false := by simp; omega
        have hpp : ¬ ((p : Int) < (p : Int)) := by omega
        have F2 : Hid (q = false) := Lib.hid (by rw [FN.out]; simp [hn])
        clear FN
        go_wp2
        go_ret2
        refine ⟨?_, BW.out⟩
        rw [F2.out]
        first | rfl | simp

theorem find_any (v : Value) (xs : List Attr) (nm : ByteArray) (w : World) (h : Ats w w.heap.size v xs) (hs : Srt xs) :
    Calls Tryd.prog 25 #[v, .string nm] w fun e w' => e = .returned (.tuple #[.int .i64 (lowB xs nm : Nat), .bool (fnd xs nm)]) ∧ Below w.heap.size w w' := by
  have hc := bsearch_any v xs nm w h hs
  generalize lowB xs nm = p at *
  generalize fnd xs nm = q at *
  obtain ⟨a, c, rfl, _⟩ := h
  go_enter Tryd.func25, Tryd.ntmps25
  go_wp2_with fail
  refine hc.mono ?_
  rintro e w' ⟨rfl, hb⟩
  go_wp2
  go_ret2
  exact ⟨rfl, hb⟩

end Go.Proofs.YtfealpehdjeckaaDoor
