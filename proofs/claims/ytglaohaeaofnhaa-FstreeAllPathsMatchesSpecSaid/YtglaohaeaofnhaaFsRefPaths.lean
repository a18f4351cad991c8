/- The reference's PathsOf at every valid tree: the wanted paths in ascending order. Conditions: the tree's cells lie in memory as they read. -/
import Derived.Test.YtglaohaeaofnhaaFsRefUse
import Derived.Test.YtglaohaeaofnhaaFsPaths
namespace Go.Proofs.Ytglaohaeaofnhaa
open Go.RowKit

theorem pathsW_take {want : Nat → Bool} {L : List Vis} {j : Nat} (h : j < L.length) : pathsW want (L.take (j + 1)) = if want (L.getD j V0).2 = true then pathsW want (L.take j) ++ [bP (L.getD j V0).1] else pathsW want (L.take j) := by
  rw [List.take_succ_eq_append_getElem h, pathsW_snoc, visD h]
/-- What holds while the paths are gathered. -/
structure PR (w wr : World) (rv : Value) (L : List Vis) (want : Nat → Bool) (j : Nat) (v : Value) : Prop where
  b : Below w.heap.size w wr
  vs : Vs wr w.heap.size rv L
  own : wr.ownsRow w.heap.size 9 1 v (pathsW want (L.take j)).length ((pathsW want (L.take j)).map Value.string)

set_option maxRecDepth 100000 in
set_option maxHeartbeats 3200000 in
theorem refPathsOf_any (a : Option Addr) (c : Nat) (t : Tr) (n : Int) (w : World) (o1 : Ok1 t) (fr : From t 0) (h : Nods w w.heap.size a c t) :
    Calls Try.prog 13 #[.agg #[.slice a t.length c], .int .i64 n] w (SortPost (pathsW (fun m => (m : Int) == n || decide (n < 0)) (visits t 0)) w) := by
  have D := Lib.hid (fun W (hb : Below w.heap.size w W) => routes_any a c t 0 W o1 fr (h.up hb))
  have HN := Lib.hid (fun (want : Nat → Bool) L (hL : (visits t 0).Perm L) => pathsW_nodup o1 fr want hL)
  have HFT := Lib.hid (fun (want : Nat → Bool) L (hL : (visits t 0).Perm L) => pathsW_fits o1 fr (want := want) hL)
  have hl6 := len_visits o1 fr
  clear o1 fr h
  go_enter Try.func13, Try.ntmps13
  go_wp2_with fail
  refine (D.out _ ((Below.refl _ _).alloc (Nat.le_refl _) _)).mono ?_
  rintro e w2 ⟨v, L, rfl, hvs, hperm, _, b2⟩
  have B2 := Lib.hid (show Below w.heap.size w w2 from ((Below.refl _ _).alloc (Nat.le_refl _) _).trans (b2.mono (by first | omega | (simp; done) | (simp; omega))))
  have hLl : L.length ≤ 641 := by rw [← hperm.length_eq]; exact hl6
  have HN2 := Lib.hid (HN.out (fun m => (m : Int) == n || decide (n < 0)) L hperm)
  have HF2 := Lib.hid (HFT.out (fun m => (m : Int) == n || decide (n < 0)) L hperm)
  have HM := Lib.hid (fun x => pathsW_mem (want := fun m => (m : Int) == n || decide (n < 0)) hperm x)
  have HW := Lib.hid (show ∀ m : Nat, (fun m : Nat => (m : Int) == n || decide (n < 0)) m = ((m : Int) == n || decide (n < 0)) from fun _ => rfl)
  have V5 := Lib.hid hvs
  obtain ⟨rb, rc, rfl, hrc, hL0, hrb, _⟩ := hvs
  clear b2 hperm D HN HFT
  have X0 := Lib.hid (show PR w2 w2 (.slice (some ⟨rb, 0, none⟩) L.length rc) L (fun m => (m : Int) == n || decide (n < 0)) 0 (.slice none 0 0) from ⟨Below.refl _ _, V5.out, by rw [List.take_zero]; exact ⟨rfl, .inl ⟨rfl, rfl⟩⟩⟩)
  generalize hwt : (fun m : Nat => (m : Int) == n || decide (n < 0)) = want at *
  have HWT := Lib.hid hwt
  clear hwt
  go_wp2_with fail
  go_loopg [5, 7] L.length (fun gg s5 s7 wr => ∃ j : Nat, j ≤ L.length ∧ L.length - j ≤ gg ∧ s7 = .int .i64 j ∧ Aside (PR w2 wr (.slice (some ⟨rb, 0, none⟩) L.length rc) L want j s5))
  case atStart => exact ⟨0, by omega, by omega, rfl, X0.out⟩
  case round =>
    obtain ⟨j, hj, hg, rfl, X⟩ := hrel
    clear X0
    by_cases hlt : j < L.length
    · have hltz : (j : Int) < (L.length : Int) := by omega
      have hj0 : (0 : Int) ≤ (j : Int) := Int.natCast_nonneg _
      have hm9 : L.length - (j + 1) < L.length - j := Nat.sub_lt_sub_left hlt (Nat.lt_succ_self j)
      obtain ⟨_, r0, _, r2⟩ := X.out.vs.cell hlt
      have HT := Lib.hid (pathsW_take (want := want) hlt)
      have hW := HW.out (L.getD j V0).2
      have hpl := pathsW_len want (L.take j)
      rw [List.length_take] at hpl
      generalize L.getD j V0 = p at *
      obtain ⟨xs, m⟩ := p
      simp only at r0 r2 HT hW
      cases hmb : ((m : Int) == n) with
      | true =>
        have hwm : want m = true := by rw [hW, hmb]; rfl
        have HT2 := Lib.hid (show pathsW want (L.take (j + 1)) = pathsW want (L.take j) ++ [bP xs] from by rw [HT.out, if_pos hwm])
        clear hW hwm HT
        go_wp2_with (at_builtin; refine wpList_put1 rfl (.tmp 27) (.tmp 33) rfl w2.heap.size u5 _ _ rfl (own_below X.out.own ((Below.refl wr.heap.size wr).alloc (Nat.le_refl _) _)) wr.heap.size (bP xs) rfl (by simp) (by omega) (by have := X.out.b.size; first | omega | (simp; omega)) ?_; intro g1 cap1 W4 P1)
        have XX := Lib.hid (show PR w2 W4 (.slice (some ⟨rb, 0, none⟩) L.length rc) L want (j + 1) (.slice (some ⟨g1, 0, none⟩) ((pathsW want (L.take j)).length + 1) cap1) from by
          have hb : Below w2.heap.size wr W4 := ((Below.refl _ _).alloc X.out.b.size _).grown P1.grown (by have := X.out.b.size; first | omega | (simp; omega)) (fun q hq => own_low X.out.own q hq)
          refine ⟨X.out.b.trans hb, X.out.vs.below hb, ?_⟩
          rw [HT2.out, List.length_append, List.map_append]
          exact P1.own)
        clear P1
        go_wp2_with fail
        go_roundg (L.length - (j + 1))
        case measure => exact Nat.lt_of_lt_of_le hm9 hg
        case rel => exact ⟨j + 1, by omega, by omega, by go_num, XX.out⟩
      | false =>
        by_cases hn0 : n < 0
        · have hwm : want m = true := by rw [hW, hmb, decide_eq_true hn0]; rfl
          have HT2 := Lib.hid (show pathsW want (L.take (j + 1)) = pathsW want (L.take j) ++ [bP xs] from by rw [HT.out, if_pos hwm])
          clear hW hwm HT
          go_wp2_with (at_builtin; refine wpList_put1 rfl (.tmp 27) (.tmp 33) rfl w2.heap.size u5 _ _ rfl (own_below X.out.own ((Below.refl wr.heap.size wr).alloc (Nat.le_refl _) _)) wr.heap.size (bP xs) rfl (by simp) (by omega) (by have := X.out.b.size; first | omega | (simp; omega)) ?_; intro g1 cap1 W4 P1)
          have XX := Lib.hid (show PR w2 W4 (.slice (some ⟨rb, 0, none⟩) L.length rc) L want (j + 1) (.slice (some ⟨g1, 0, none⟩) ((pathsW want (L.take j)).length + 1) cap1) from by
            have hb : Below w2.heap.size wr W4 := ((Below.refl _ _).alloc X.out.b.size _).grown P1.grown (by have := X.out.b.size; first | omega | (simp; omega)) (fun q hq => own_low X.out.own q hq)
            refine ⟨X.out.b.trans hb, X.out.vs.below hb, ?_⟩
            rw [HT2.out, List.length_append, List.map_append]
            exact P1.own)
          clear P1
          go_wp2_with fail
          go_roundg (L.length - (j + 1))
          case measure => exact Nat.lt_of_lt_of_le hm9 hg
          case rel => exact ⟨j + 1, by omega, by omega, by go_num, XX.out⟩
        · have hnb : decide (n < 0) = false := by rw [decide_eq_false_iff_not]; exact hn0
          have hwm : want m = false := by rw [hW, hmb, hnb]; rfl
          have HT2 := Lib.hid (show pathsW want (L.take (j + 1)) = pathsW want (L.take j) from by rw [HT.out, if_neg (by rw [hwm]; simp)])
          clear hW hwm HT hn0
          have XX := Lib.hid (show PR w2 wr (.slice (some ⟨rb, 0, none⟩) L.length rc) L want (j + 1) u5 from ⟨X.out.b, X.out.vs, by rw [HT2.out]; exact X.out.own⟩)
          go_wp2_with fail
          go_roundg (L.length - (j + 1))
          case measure => exact Nat.lt_of_lt_of_le hm9 hg
          case rel => exact ⟨j + 1, by omega, by omega, by go_num, XX.out⟩
    · obtain rfl : j = L.length := by omega
      have hO := X.out.own
      rw [List.take_length] at hO
      have hpl := pathsW_len want L
      have BB := Lib.hid X.out.b
      have hbs := X.out.b.size
      have hb2 := B2.out.size
      have HSO := Lib.hid (sortStrings_any u5 (pathsW want L) wr (strs_row hO HF2.out (by omega)) HN2.out (by omega))
      unfold SortPost at HSO
      clear hO X
      go_wp2_with fail
      refine HSO.out.mono ?_
      rintro e w9 ⟨v9, P, rfl, ha, hs, hlow, b9⟩
      have FIN := Lib.hid (show SortPost (pathsW want (visits t 0)) w (.returned v9) w9 from ⟨v9, P, rfl, ⟨ha.1, fun x => (ha.2 x).trans (HM.out x).symm⟩, hs, fun q hq => by have := hlow q hq; omega, (B2.out.trans (BB.out.mono hb2)).trans (b9.mono (by omega))⟩)
      clear ha hs hlow b9 HSO
      go_wp2
      go_ret
      have hfin := FIN.out
      rw [← HWT.out] at hfin
      exact hfin

end Go.Proofs.Ytglaohaeaofnhaa
