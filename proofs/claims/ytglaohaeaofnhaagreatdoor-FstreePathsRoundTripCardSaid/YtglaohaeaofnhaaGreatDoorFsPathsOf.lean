/- PathsOf at every tree: the fault, or the paths in ascending order. Conditions: the tree's cells lie in memory as they read. -/
import Derived.Test.YtglaohaeaofnhaaGreatDoorFsAllP
namespace Go.Proofs.YtglaohaeaofnhaaGreatDoor
open Go.RowKit

theorem wantsOne (w : World) (p : Nat) (n : Int) (h : One w p (.int .i64 n)) : Wants 14 #[.pointer (some ⟨p, 0, none⟩)] (fun m => (m : Int) == n) w := by
  refine ⟨enters_of Tryz.func14 (by kernel_rfl) rfl, fun W m hb => ?_⟩
  have h2 := (h.below hb h.lt).c0
  show Calls Tryz.prog 14 #[.int .i64 ((m : Nat) : Int), .pointer (some ⟨p, 0, none⟩)] W _
  go_enter Tryz.func14, Tryz.ntmps14
  go_wp2
  go_ret
  exact ⟨rfl, rfl⟩

/-- The fault of PathsOf. -/
def pofF (t : Tr) (n : Int) : Int × Int := if (valT t).1 ≠ 0 then valT t else if used t n = true then (0, 0) else (3, -1)
set_option maxRecDepth 100000 in
set_option maxHeartbeats 1600000 in
theorem pathsOf_any (a : Option Addr) (c : Nat) (t : Tr) (n : Int) (w : World) (h : Nods w w.heap.size a c t) :
    Calls Tryz.prog 7 #[.agg #[.slice a t.length c], .int .i64 n] w (PathsPost t (pofF t n) (fun m => (m : Int) == n) w) := by
  have C1 := Lib.hid (fun W (hb : Below w.heap.size w W) => validT_any a c t W (h.up hb))
  have T0 := Lib.hid (show One (((w.alloc (.cells #[.slice a t.length c] 24)).alloc (.cells #[.int .i64 n] 3)).alloc (.cells #[.int .i64 0, .int .i64 0] 27)) w.heap.size (.slice a t.length c) from ((One.new w _ _).alloc _).alloc _)
  have F0 := Lib.hid (show FBox (((w.alloc (.cells #[.slice a t.length c] 24)).alloc (.cells #[.int .i64 n] 3)).alloc (.cells #[.int .i64 0, .int .i64 0] 27)) (w.heap.size + 1 + 1) 0 0 from (FBox.new ((w.alloc _).alloc _) 0 0 _).at_ (by simp))
  have N0 := Lib.hid (show One (((w.alloc (.cells #[.slice a t.length c] 24)).alloc (.cells #[.int .i64 n] 3)).alloc (.cells #[.int .i64 0, .int .i64 0] 27)) (w.heap.size + 1) (.int .i64 n) from ((One.new (w.alloc _) _ _).alloc _).at_ (by simp))
  have B0 := Lib.hid (show Below w.heap.size w (((w.alloc (.cells #[.slice a t.length c] 24)).alloc (.cells #[.int .i64 n] 3)).alloc (.cells #[.int .i64 0, .int .i64 0] 27)) from (((Below.refl _ _).alloc (Nat.le_refl _) _).alloc (by first | omega | (simp; done) | (simp; omega)) _).alloc (by first | omega | (simp; done) | (simp; omega)) _)
  by_cases hq : (valT t).1 = 0
  · obtain ⟨hd, p4⟩ := valT_ok hq
    have hz := valT_zero hq
    have C3 := Lib.hid (fun W (hb : Below w.heap.size w W) => isUsed_any a c t n W (h.up hb))
    have hpf : pofF t n = if used t n = true then (0, 0) else (3, -1) := by unfold pofF; rw [if_neg (by simpa using hq)]
    rw [hz] at C1
    rw [hpf]
    unfold faultV at C1
    cases hu : used t n with
    | true =>
      rw [hu] at C3
      rw [if_pos rfl]
      have C2 := Lib.hid (fun W (hb : Below w.heap.size w W) (p : Nat) (hn : One W p (.int .i64 n)) => pathsWhere_any a c t W hd p4 (h.up hb) _ _ _ (wantsOne W p n hn))
      unfold SortPost at C2
      clear hd p4 hq hz h hpf hu
      go_enter Tryz.func7, Tryz.ntmps7
      go_wp2_with fail
      refine (C1.out _ B0.out).mono ?_
      rintro e W1 ⟨rfl, b1⟩
      have T1 := Lib.hid ((T0.out.below b1 T0.out.lt).alloc (.cells #[.int .i64 0, .int .i64 0] 27))
      have N1 := Lib.hid ((N0.out.below b1 N0.out.lt).alloc (.cells #[.int .i64 0, .int .i64 0] 27))
      have F1 := Lib.hid ((F0.out.below b1 F0.out.lt).alloc (.cells #[.int .i64 0, .int .i64 0] 27))
      have B1 := Lib.hid ((B0.out.trans (b1.mono B0.out.size)).alloc (Nat.le_trans B0.out.size b1.size) (.cells #[.int .i64 0, .int .i64 0] 27))
      have tc := (T0.out.below b1 T0.out.lt).c0
      have tl := (T0.out.below b1 T0.out.lt).lt
      have nc := (N0.out.below b1 N0.out.lt).c0
      have nl := (N0.out.below b1 N0.out.lt).lt
      clear b1
      go_wp2_with fail
      refine (C3.out _ B1.out).mono ?_
      rintro e W2 ⟨rfl, b2⟩
      have T2 := Lib.hid (T1.out.below b2 T1.out.lt)
      have N2 := Lib.hid (N1.out.below b2 N1.out.lt)
      have F2 := Lib.hid (F1.out.below b2 F1.out.lt)
      have B2 := Lib.hid (B1.out.trans (b2.mono B1.out.size))
      have tc2 := T2.out.c0
      have tl2 := T2.out.lt
      clear b2 tc tl nc nl
      go_wp2_with fail
      refine (C2.out _ B2.out _ N2.out).mono ?_
      rintro e W3 ⟨v, P, rfl, ha, hs, hlow, b3⟩
      have F3 := Lib.hid (F2.out.below b3 F2.out.lt)
      have hfl := F2.out.lt
      have B3 := Lib.hid (B2.out.trans (b3.mono B2.out.size))
      obtain ⟨l9, a0, a1, f0, f1⟩ := F3.out
      have HA := Lib.hid ha
      have HS := Lib.hid (show Strs ((W3.setCell ⟨w.heap.size + 1 + 1, 0, none⟩ (.int .i64 0)).setCell ⟨w.heap.size + 1 + 1, 1, none⟩ (.int .i64 0)) W3.heap.size v P from
        (hs.setLow hlow (p := ⟨w.heap.size + 1 + 1, 0, none⟩) (by simp; omega) _).setLow hlow (p := ⟨w.heap.size + 1 + 1, 1, none⟩) (by simp; omega) _)
      clear ha hs hlow b3 tc2 tl2
      go_wp2
      exact bodyPost_ret (v := .tuple #[v, faultV 0 0]) (by simp [results, Tryz.results7, faultV, go_sem, a0, a1]) rfl (.inr ⟨rfl, v, P, rfl, HA.out, by simpa using HS.out, (B3.out.setCell (by first | omega | (simp; done) | (simp; omega)) _).setCell (by first | omega | (simp; done) | (simp; omega)) _⟩)
    | false =>
      rw [hu] at C3
      rw [if_neg (by simp)]
      clear hd p4 hq hz h hpf hu
      go_enter Tryz.func7, Tryz.ntmps7
      go_wp2_with fail
      refine (C1.out _ B0.out).mono ?_
      rintro e W1 ⟨rfl, b1⟩
      have F1 := Lib.hid ((F0.out.below b1 F0.out.lt).alloc (.cells #[.int .i64 0, .int .i64 0] 27))
      have B1 := Lib.hid ((B0.out.trans (b1.mono B0.out.size)).alloc (Nat.le_trans B0.out.size b1.size) (.cells #[.int .i64 0, .int .i64 0] 27))
      have tc := (T0.out.below b1 T0.out.lt).c0
      have tl := (T0.out.below b1 T0.out.lt).lt
      have nc := (N0.out.below b1 N0.out.lt).c0
      have nl := (N0.out.below b1 N0.out.lt).lt
      clear b1
      go_wp2_with fail
      refine (C3.out _ B1.out).mono ?_
      rintro e W2 ⟨rfl, b2⟩
      have F2 := Lib.hid (F1.out.below b2 F1.out.lt)
      have B2 := Lib.hid (B1.out.trans (b2.mono B1.out.size))
      obtain ⟨l9, a0, a1, f0, f1⟩ := F2.out
      clear b2 tc tl nc nl
      go_wp2
      exact bodyPost_ret (v := .tuple #[.slice none 0 0, faultV 3 (-1)]) (by simp [results, Tryz.results7, faultV, go_sem, a0, a1]) rfl (.inl ⟨by decide, rfl, (B2.out.setCell (by first | omega | (simp; done) | (simp; omega)) _).setCell (by first | omega | (simp; done) | (simp; omega)) _⟩)
  · have hq1 : ((valT t).1 != 0) = true := by simpa using hq
    have hq2 : ((valT t).1 == 0) = false := by simpa using hq
    have HQ := Lib.hid hq
    rw [show pofF t n = valT t from by unfold pofF; rw [if_pos hq]]
    clear h hq
    unfold faultV at C1
    have HR := Lib.hid (show valT t = ((valT t).1, (valT t).2) from rfl)
    rw [HR.out]
    clear HR
    generalize (valT t).1 = q at *
    generalize (valT t).2 = r at *
    go_enter Tryz.func7, Tryz.ntmps7
    go_wp2_with fail
    refine (C1.out _ B0.out).mono ?_
    rintro e W1 ⟨rfl, b1⟩
    have F1 := Lib.hid (F0.out.below b1 F0.out.lt)
    have B1 := Lib.hid (B0.out.trans (b1.mono B0.out.size))
    obtain ⟨l9, a0, a1, f0, f1⟩ := F1.out
    have hs1 := B1.out.size
    clear b1
    go_wp2
    go_region
    go_wp2
    exact bodyPost_ret (v := .tuple #[.slice none 0 0, faultV q r]) (by simp [results, Tryz.results7, faultV, go_sem, a0, a1, l9]) rfl (.inl ⟨HQ.out, rfl, by repeat (first | exact B1.out | refine Below.setCell ?_ (by first | omega | (simp; done) | (simp; omega)) _ | refine Below.alloc ?_ (by first | omega | (simp; done) | (simp; omega)) _ | refine Below.drew ?_)⟩)


end Go.Proofs.YtglaohaeaofnhaaGreatDoor
