/- The reference's SimplifyACL at every valid list: the same entries as acl.Simplify. Conditions: the slice's cells lie in memory as they read; the entries are valid, six at the most. -/
import Derived.Test.YtbmcfhojhngpkaaAclRefSimp0
namespace Go.Proofs.Ytbmcfhojhngpkaa
open Go.RowKit

def RefPost (xs : List Ent) (w : World) (e : Ending) (w' : World) : Prop :=
  ∃ v, e = .returned v ∧ Acls w' w'.heap.size v (simpK xs xs.length) ∧ Below w.heap.size w w'
/-- What holds at the head of the outermost loop. -/
structure LInv (w wr : World) (xs : List Ent) (k : Nat) (v : Value) : Prop where
  B : Below w.heap.size w wr
  own : wr.ownsRow w.heap.size 27 3 v (simpK xs k).length (flatE (simpK xs k))
theorem EB.drewN {w : World} {n : Nat} {u a d : Int} (h : EB w n u a d) (k : Nat) : EB (w.drewN k) n u a d := ⟨h.lt, h.c0, h.c1, h.c2, h.f1, h.f2⟩

set_option maxRecDepth 100000 in
set_option maxHeartbeats 8000000 in
theorem refSimp_any (v : Value) (xs : List Ent) (w : World) (h : Acls w w.heap.size v xs) (hok : ∀ e ∈ xs, Ok e) (h6 : xs.length ≤ 6) :
    Calls Try.prog 18 #[v] w (RefPost xs w) := by
  obtain ⟨av, cv, rfl, hcl, _, hfit, hx⟩ := h
  have HX := Lib.hid hx
  have HF := Lib.hid hfit
  have HO := Lib.hid hok
  clear hx hfit hok
  go_enter Try.func18, Try.ntmps18
  go_wp2_with fail
  have IN : LInv w w xs 0 (.slice none 0 0) := ⟨Below.refl _ _, ⟨rfl, .inl ⟨rfl, rfl⟩⟩⟩
  have II := Lib.hid IN
  clear IN
  go_loopg [3, 4, 5, 6, 7, 8, 9, 10] xs.length (fun gg s3 s4 _ _ _ _ _ _ wr => ∃ k : Nat, k ≤ xs.length ∧ xs.length - k ≤ gg ∧ s4 = .int .i64 k ∧ Aside (LInv w wr xs k s3))
  case atStart => exact ⟨0, by omega, by omega, rfl, II.out⟩
  case round =>
    obtain ⟨k, hk, hg, rfl, I⟩ := hrel
    clear II
    by_cases hlt : k < xs.length
    · have hltz : (k : Int) < (xs.length : Int) := by omega
      obtain ⟨b, of, rfl, hb, hj⟩ := HX.out (by omega)
      have BW := I.out.B
      have hBs := BW.size
      have HJ : Hid (∀ j, j < xs.length → wr.cell? ⟨b, of + j * 3, none⟩ = some (.int .i64 (xs.getD j E0).u) ∧ wr.cell? ⟨b, of + j * 3 + 1, none⟩ = some (.int .i64 (xs.getD j E0).a) ∧ wr.cell? ⟨b, of + j * 3 + 2, none⟩ = some (.int .i64 (xs.getD j E0).d)) := Lib.hid (fun j hjl =>
        ⟨(BW.cell (p := ⟨b, _, none⟩) hb).trans (hj j hjl).1, (BW.cell (p := ⟨b, _, none⟩) hb).trans (hj j hjl).2.1, (BW.cell (p := ⟨b, _, none⟩) hb).trans (hj j hjl).2.2⟩)
      obtain ⟨g0, g1, g2⟩ := HJ.out k hlt
      have hek := HO.out (xs.getD k E0) (by rw [entD hlt]; exact List.getElem_mem hlt)
      clear hj
      generalize hy : xs.getD k E0 = y at g0 g1 g2 hek
      obtain ⟨u, a, d⟩ := y
      have Y := Lib.hid hy
      have EK := Lib.hid hek
      clear hy hek
      obtain ⟨wo, rfl⟩ : ∃ wo : World, wo = wr := ⟨_, rfl⟩
      go_wp2_with fail
      have E0' : EB (wo.alloc (.cells #[.int .i64 u, .int .i64 a, .int .i64 d] 27)) wo.heap.size (u) (rst (nev ⟨u, a, d⟩ (xs.take k)) a 0) (rst (nev ⟨u, a, d⟩ (xs.take k)) d 0) := EB.new _ _ _ _ _
      have EH := Lib.hid E0'
      clear E0' g1 g2 g0
      go_loopg [6, 7, 8, 9, 10] 4 (fun gg s6 _ _ _ _ wr => ∃ q : Nat, q ≤ 4 ∧ 4 - q ≤ gg ∧ s6 = .int .i64 (pmx q) ∧ Aside (EB wr wo.heap.size u (rst (nev ⟨u, a, d⟩ (xs.take k)) a q) (rst (nev ⟨u, a, d⟩ (xs.take k)) d q)) ∧ Aside (Below wo.heap.size wo wr))
      case atStart => exact ⟨0, by omega, by omega, rfl, EH.out, (Below.refl _ _).alloc (Nat.le_refl _) _⟩
      case round =>
        obtain ⟨q, hq, hgq, rfl, EQ, BQ⟩ := hrel
        clear EH
        by_cases hq4 : q < 4
        · obtain ⟨p0, p1, p2, p3, p4⟩ := pmx_facts hq4
          have P0 := Lib.hid p0
          have P3 := Lib.hid p3
          have hA := rst_bd (p := nev ⟨u, a, d⟩ (xs.take k)) EK.out.a0 EK.out.a15 q hq
          have hD := rst_bd (p := nev ⟨u, a, d⟩ (xs.take k)) EK.out.d0 EK.out.d15 q hq
          simp only at hA hD
          have hSA := sub_bd hA.1 hA.2 hq4
          have hSD := sub_bd hD.1 hD.2 hq4
          have RY := Lib.hid (fun h => (⟨rst_yes (p := nev ⟨u, a, d⟩ (xs.take k)) (a := a) (k := q) h, rst_yes (p := nev ⟨u, a, d⟩ (xs.take k)) (a := d) (k := q) h⟩ : _ ∧ _))
          have RN := Lib.hid (fun h => (⟨rst_no (p := nev ⟨u, a, d⟩ (xs.take k)) (a := a) (k := q) h, rst_no (p := nev ⟨u, a, d⟩ (xs.take k)) (a := d) (k := q) h⟩ : _ ∧ _))
          have NV := Lib.hid (ndN_nev ⟨u, a, d⟩ (xs.take k) (pmx q))
          have NS := Lib.hid (fun x h => ndN_step (e := ⟨u, a, d⟩) (bs := xs.take k) (m := pmx q) (x := x) h)
          clear p0 p3 p4
          generalize rst (nev ⟨u, a, d⟩ (xs.take k)) a q = A at *
          generalize rst (nev ⟨u, a, d⟩ (xs.take k)) d q = D at *
          generalize pmx q = m at *
          have m16 : decide (m < 16) = true := by rw [decide_eq_true_iff]; omega
          obtain ⟨w2, rfl⟩ : ∃ w2 : World, w2 = wr := ⟨_, rfl⟩
          go_wp2_with fail
          go_loopg [7, 8, 9, 10] 8 (fun gg s7 s8 _ _ wr => ∃ (x : Int) (nd : Bool) (r : Nat), 1 ≤ x ∧ x ≤ 8 ∧ (8 - x).toNat ≤ gg ∧ s8 = .int .i64 x ∧ s7 = .bool nd ∧ wr = w2.drewN r ∧ Aside (nd = ndN ⟨u, a, d⟩ (xs.take k) m (x - 1).toNat))
          case atStart => exact ⟨1, _, 0, by omega, by omega, by omega, rfl, rfl, rfl, rfl⟩
          case round =>
            obtain ⟨x, nd, r, hx1, hx8, hgx, rfl, rfl, rfl, ND⟩ := hrel
            by_cases hx7 : x < 8
            · have hx7' : x ≤ 7 := by omega
              have hways : (u = x ∧ (u == x) = true ∧ (u != x) = false) ∨ (cov ⟨u, a, d⟩ x = true ∧ (u == x) = false ∧ (u != x) = true ∧ (u == -1) = true ∧ (u != -1) = false) ∨ (cov ⟨u, a, d⟩ x = false ∧ (u == x) = false ∧ (u != x) = true ∧ (u == -1) = false ∧ (u != -1) = true) := by
                by_cases z1 : u = x
                · left; exact ⟨z1, by simp [z1], by simp [z1]⟩
                · right
                  by_cases z2 : u = -1
                  · left; exact ⟨by unfold cov; rw [decide_eq_true_iff]; exact .inl z2, by simp [z1], by simp [z1], by simp [z2], by simp [z2]⟩
                  · right; exact ⟨by unfold cov; rw [decide_eq_false_iff_not]; simp [z1, z2], by simp [z1], by simp [z1], by simp [z2], by simp [z2]⟩
              obtain ⟨sp0, hw2, hsp⟩ : ∃ sp0 : Bool, ((sp0 = false ∧ (u == x) = true ∧ (u != x) = false) ∨ (sp0 = false ∧ (u == x) = false ∧ (u != x) = true ∧ (u == -1) = true ∧ (u != -1) = false) ∨ (sp0 = true ∧ (u == x) = false ∧ (u != x) = true ∧ (u == -1) = false ∧ (u != -1) = true)) ∧ sp0 = !cov ⟨u, a, d⟩ x := by
                rcases hways with ⟨z, z1, z2⟩ | ⟨z, z1, z2, z3, z4⟩ | ⟨z, z1, z2, z3, z4⟩
                · exact ⟨false, .inl ⟨rfl, z1, z2⟩, by rw [show cov ⟨u, a, d⟩ x = true by unfold cov; rw [decide_eq_true_iff]; exact .inr z]; rfl⟩
                · exact ⟨false, .inr (.inl ⟨rfl, z1, z2, z3, z4⟩), by rw [z]; rfl⟩
                · exact ⟨true, .inr (.inr ⟨rfl, z1, z2, z3, z4⟩), by rw [z]; rfl⟩
              clear hways
              have SP := Lib.hid hsp
              clear hsp
              obtain ⟨g0, _, _⟩ := HJ.out k hlt
              rw [Y.out] at g0
              have g0 := (BQ.out.cell (p := ⟨b, _, none⟩) (show b < wo.heap.size by omega)).trans g0
              simp only at g0
              rcases hw2 with ⟨rfl, z1, z2⟩ | ⟨rfl, z1, z2, z3, z4⟩ | ⟨rfl, z1, z2, z3, z4⟩
              all_goals
                go_wp2_with fail
                go_loopg [9, 10] k (fun gg s9 s10 wr => ∃ (j r' : Nat) (sp : Bool), j ≤ k ∧ k - j ≤ gg ∧ s10 = .int .i64 j ∧ s9 = .bool sp ∧ wr = w2.drewN r' ∧ Aside (sp = (!cov ⟨u, a, d⟩ x || (xs.take j).any (app · x m))))
                case atStart => exact ⟨0, r, _, by omega, by omega, rfl, rfl, rfl, (show _ = _ from by rw [← SP.out]; simp)⟩
                case round =>
                  obtain ⟨j, r', sp, hjk, hgj, rfl, rfl, rfl, S⟩ := hrel
                  by_cases hjl : j < k
                  · have hjz : (j : Int) < (k : Int) := by omega
                    have hjn : j < xs.length := by omega
                    have hjz2 : (j : Int) < (xs.length : Int) := by omega
                    have SN := Lib.hid (any_snoc hjn (app · x m))
                    obtain ⟨e0, e1, e2⟩ := HJ.out j hjn
                    have e0 := (BQ.out.cell (p := ⟨b, _, none⟩) (show b < wo.heap.size by omega)).trans e0
                    have e1 := (BQ.out.cell (p := ⟨b, _, none⟩) (show b < wo.heap.size by omega)).trans e1
                    have e2 := (BQ.out.cell (p := ⟨b, _, none⟩) (show b < wo.heap.size by omega)).trans e2
                    cases sp with
                    | true =>
                      clear e0 e1 e2
                      go_wp2_with fail
                      go_quiet (fail)
                      go_wp2_with fail
                      go_roundg (k - (j + 1))
                      case measure => omega
                      case rel => exact ⟨j + 1, _, true, by omega, by omega, by go_num, rfl, rfl, (show _ = _ from by rw [SN.out, ← Bool.or_assoc, ← S.out]; rfl)⟩
                    | false =>
                      have SF := Lib.hid (show ∀ t : Bool, app (xs.getD j E0) x m = t → t = (!cov ⟨u, a, d⟩ x || (xs.take (j + 1)).any (app · x m)) from fun t ht => by rw [SN.out, ← Bool.or_assoc, ← S.out, ht]; rfl)
                      clear S SN
                      generalize xs.getD j E0 = y at *
                      obtain ⟨uj, aj, dj⟩ := y
                      simp only at e0 e1 e2
                      by_cases y1 : uj = x
                      · have y2 : (uj == x) = true := by simpa using y1
                        have SC := Lib.hid (show cov ⟨uj, aj, dj⟩ x = true by unfold cov; rw [decide_eq_true_iff]; exact .inr y1)
                        clear y1
                        cases y5 : bits .and .i64 (bits .or .i64 aj dj) m != 0 with
                        | true =>
                          have SA := Lib.hid (SF.out true (by unfold app; rw [SC.out, y5]; rfl))
                          clear SC SF
                          go_wp2_with fail
                          go_quiet (fail)
                          go_wp2_with fail
                          go_roundg (k - (j + 1))
                          case measure => omega
                          case rel => exact ⟨j + 1, _, true, by omega, by omega, by go_num, rfl, rfl, SA.out⟩
                        | false =>
                          have SA := Lib.hid (SF.out false (by unfold app; rw [SC.out, y5]; rfl))
                          clear SC SF
                          go_wp2_with fail
                          go_quiet (fail)
                          go_wp2_with fail
                          go_roundg (k - (j + 1))
                          case measure => omega
                          case rel => exact ⟨j + 1, _, false, by omega, by omega, by go_num, rfl, rfl, SA.out⟩
                      · have y2 : (uj == x) = false := by simpa using y1
                        by_cases y3 : uj = -1
                        · have y4 : (uj == -1) = true := by simpa using y3
                          have SC := Lib.hid (show cov ⟨uj, aj, dj⟩ x = true by unfold cov; rw [decide_eq_true_iff]; exact .inl y3)
                          clear y1 y3
                          cases y5 : bits .and .i64 (bits .or .i64 aj dj) m != 0 with
                          | true =>
                            have SA := Lib.hid (SF.out true (by unfold app; rw [SC.out, y5]; rfl))
                            clear SC SF
                            go_wp2_with fail
                            go_quiet (fail)
                            go_wp2_with fail
                            go_roundg (k - (j + 1))
                            case measure => omega
                            case rel => exact ⟨j + 1, _, true, by omega, by omega, by go_num, rfl, rfl, SA.out⟩
                          | false =>
                            have SA := Lib.hid (SF.out false (by unfold app; rw [SC.out, y5]; rfl))
                            clear SC SF
                            go_wp2_with fail
                            go_quiet (fail)
                            go_wp2_with fail
                            go_roundg (k - (j + 1))
                            case measure => omega
                            case rel => exact ⟨j + 1, _, false, by omega, by omega, by go_num, rfl, rfl, SA.out⟩
                        · have y4 : (uj == -1) = false := by simpa using y3
                          have SA := Lib.hid (SF.out false (by unfold app cov; rw [decide_eq_false (by simp [y1, y3])]; rfl))
                          clear y1 y3 SF
                          go_wp2_with fail
                          go_quiet (fail)
                          go_wp2_with fail
                          go_roundg (k - (j + 1))
                          case measure => omega
                          case rel => exact ⟨j + 1, _, false, by omega, by omega, by go_num, rfl, rfl, SA.out⟩
                  · obtain rfl : j = k := by omega
                    have hjz : ¬ (j : Int) < (j : Int) := by omega
                    have SX := Lib.hid (show ∀ nd' : Bool, nd' = (nd || !sp) → nd' = ndN ⟨u, a, d⟩ (xs.take j) m (x + 1 - 1).toNat from fun nd' h => by
                      rw [NS.out x hx1, ← ND.out, h]
                      unfold need
                      rw [S.out]
                      cases cov ⟨u, a, d⟩ x <;> cases (xs.take j).any (app · x m) <;> rfl)
                    clear S ND
                    cases nd with
                    | true =>
                      go_wp2_with fail
                      go_roundg (8 - (x + 1)).toNat
                      case measure => omega
                      case rel => exact ⟨x + 1, true, _, by omega, by omega, by omega, rfl, rfl, rfl, SX.out true rfl⟩
                    | false =>
                      cases sp with
                      | true =>
                        go_wp2_with fail
                        go_roundg (8 - (x + 1)).toNat
                        case measure => omega
                        case rel => exact ⟨x + 1, false, _, by omega, by omega, by omega, rfl, rfl, rfl, SX.out false rfl⟩
                      | false =>
                        go_wp2_with fail
                        go_roundg (8 - (x + 1)).toNat
                        case measure => omega
                        case rel => exact ⟨x + 1, true, _, by omega, by omega, by omega, rfl, rfl, rfl, SX.out true rfl⟩
            · obtain rfl : x = 8 := by omega
              have ND8 := Lib.hid (show (nev ⟨u, a, d⟩ (xs.take k) m) = !nd from by rw [NV.out, ND.out]; rfl)
              clear ND NS NV
              obtain ⟨el, e0, e1, e2, j1, j2⟩ := EQ.out.drewN r
              cases nd with
              | true =>
                have EN := Lib.hid (RN.out (by rw [ND8.out]; rfl))
                clear RN RY ND8 e0 e1 e2 j1 j2 el
                go_wp2_with fail
                go_roundg (4 - (q + 1))
                case measure => omega
                case rel => exact ⟨q + 1, by omega, by omega, by rw [P3.out], by rw [EN.out.1, EN.out.2]; exact EQ.out.drewN r, below_drewN BQ.out r⟩
              | false =>
                have EN := Lib.hid (RY.out (by rw [ND8.out]; rfl))
                clear RN RY ND8
                have hq2 := BQ.out.size
                have ES := Lib.hid (show EB (((w2.drewN r).setCell ⟨wo.heap.size, 1, none⟩ (.int .i64 (A - bits .and .i64 A m))).setCell ⟨wo.heap.size, 2, none⟩ (.int .i64 (D - bits .and .i64 D m))) wo.heap.size u (A - bits .and .i64 A m) (D - bits .and .i64 D m) from
                  ⟨by simpa using el, (World.cell?_setCell_other _ ⟨_, 2, none⟩ ⟨_, 0, none⟩ _ (by simp)).trans ((World.cell?_setCell_other _ ⟨_, 1, none⟩ ⟨_, 0, none⟩ _ (by simp)).trans e0), (World.cell?_setCell_other _ ⟨_, 2, none⟩ ⟨_, 1, none⟩ _ (by simp)).trans (World.cell?_setCell_same _ _ _ e1), World.cell?_setCell_same _ _ _ ((World.cell?_setCell_other _ ⟨_, 1, none⟩ ⟨_, 2, none⟩ _ (by simp)).trans e2), by simpa using j1, by simpa using j2⟩)
                have BS := Lib.hid (show Below wo.heap.size wo (((w2.drewN r).setCell ⟨wo.heap.size, 1, none⟩ (.int .i64 (A - bits .and .i64 A m))).setCell ⟨wo.heap.size, 2, none⟩ (.int .i64 (D - bits .and .i64 D m))) from
                  ((below_drewN BQ.out r).setCell (by first | omega | (simp; done) | (simp; omega)) _).setCell (by first | omega | (simp; done) | (simp; omega)) _)
                go_wp2_with fail
                go_roundg (4 - (q + 1))
                case measure => omega
                case rel => exact ⟨q + 1, by omega, by omega, by rw [P3.out], by rw [EN.out.1, EN.out.2]; exact ES.out, BS.out⟩
        · obtain rfl : q = 4 := by omega
          have hA := rst_bd (p := nev ⟨u, a, d⟩ (xs.take k)) EK.out.a0 EK.out.a15 4 (Nat.le_refl _)
          have hD := rst_bd (p := nev ⟨u, a, d⟩ (xs.take k)) EK.out.d0 EK.out.d15 4 (Nat.le_refl _)
          have sA := rst_strip (p := nev ⟨u, a, d⟩ (xs.take k)) EK.out.a0 EK.out.a15
          have sD := rst_strip (p := nev ⟨u, a, d⟩ (xs.take k)) EK.out.d0 EK.out.d15
          have hstr : strip ⟨u, a, d⟩ (usel ⟨u, a, d⟩ (xs.take k)) = ⟨u, rst (nev ⟨u, a, d⟩ (xs.take k)) a 4, rst (nev ⟨u, a, d⟩ (xs.take k)) d 4⟩ := by
            unfold strip usel; rw [sA, sD]
          simp only at hA hD
          have hkeep : keepE (strip ⟨u, a, d⟩ (usel ⟨u, a, d⟩ (xs.take k))) = decide (0 < rst (nev ⟨u, a, d⟩ (xs.take k)) a 4 + rst (nev ⟨u, a, d⟩ (xs.take k)) d 4) := by
            rw [hstr]; exact keep_sum hA.1 hA.2 hD.1 hD.2
          have HYES := Lib.hid (fun h => simpK_yes (U := usel ⟨u, a, d⟩ (xs.take k)) Y.out rfl h)
          have HNO := Lib.hid (fun h => simpK_no (U := usel ⟨u, a, d⟩ (xs.take k)) Y.out rfl h)
          have hfs := strip_fits (e := ⟨u, a, d⟩) (usel ⟨u, a, d⟩ (xs.take k)) (by have := HF.out (xs.getD k E0) (by rw [entD hlt]; exact List.getElem_mem hlt); rwa [Y.out] at this)
          rw [hstr] at hfs hkeep
          have HSTR := Lib.hid hstr
          have EQ2 := Lib.hid EQ.out
          clear sA sD hstr EQ
          have e16 : pmx 4 = 16 := rfl
          rw [e16]
          clear e16
          generalize rst (nev ⟨u, a, d⟩ (xs.take k)) a 4 = A at *
          generalize rst (nev ⟨u, a, d⟩ (xs.take k)) d 4 = D at *
          obtain ⟨w2, rfl⟩ : ∃ w2 : World, w2 = wr := ⟨_, rfl⟩
          have hq2 := BQ.out.size
          obtain ⟨el, e0, e1, e2, j1, j2⟩ := EQ2.out
          by_cases hs : 0 < A + D
          · have HK := Lib.hid (HYES.out (by rw [HSTR.out, hkeep, decide_eq_true hs]))
            have bWs := BQ.out.alloc BQ.out.size (.cells #[.int .i64 u, .int .i64 A, .int .i64 D] 27)
            have OW := Lib.hid (own_below I.out.own bWs)
            have BWW := Lib.hid (I.out.B.trans (bWs.mono I.out.B.size))
            have hl := (simpK_fits (xs := xs) HF.out k hk).2
            have LT := Lib.hid I.out.own.lt
            have AO := Lib.hid (acls_one w2 w2.heap.size rfl ⟨u, A, D⟩ hfs 27)
            clear hkeep HYES HNO hfs bWs I EQ2 BQ
            go_wp2_with (at_builtin; refine wpList_append_ents rfl (.tmp 112) (.tmp 114) rfl w.heap.size u3 _ (simpK xs k) rfl OW.out _ (.slice (some ⟨w2.heap.size, 0, none⟩) 1 1) [⟨u, A, D⟩] rfl AO.out (by first | omega | (simp; done) | (simp; omega)) (by first | omega | (simp; done) | (simp; omega)) ?_; intro v3 w3 hown3 hg3)
            have hs3 := hg3.size
            simp at hs3
            have I3 := Lib.hid (show LInv w w3 xs (k + 1) v3 from ⟨BWW.out.grown hg3 (by first | omega | (simp; done) | (simp; omega)) (fun g hg => (LT.out g hg).1), by rw [HK.out, HSTR.out]; simpa using hown3⟩)
            clear hown3 hg3
            go_wp2_with fail
            go_roundg (xs.length - (k + 1))
            case measure => omega
            case rel => exact ⟨k + 1, by omega, by omega, by go_num, I3.out⟩
          · have HK := Lib.hid (HNO.out (by rw [HSTR.out, hkeep, decide_eq_false hs]))
            have I3 := Lib.hid (show LInv w w2 xs (k + 1) u3 from ⟨I.out.B.trans (BQ.out.mono I.out.B.size), by rw [HK.out]; exact own_below I.out.own BQ.out⟩)
            clear hkeep HYES HNO hfs I EQ2 BQ
            go_wp2_with fail
            go_roundg (xs.length - (k + 1))
            case measure => omega
            case rel => exact ⟨k + 1, by omega, by omega, by go_num, I3.out⟩
    · obtain rfl : k = xs.length := by omega
      have hfi := simpK_fits (xs := xs) HF.out xs.length (Nat.le_refl _)
      go_wp2_with fail
      go_ret
      exact ⟨_, rfl, acls_own I.out.own hfi.1 (by omega), I.out.B⟩

end Go.Proofs.Ytbmcfhojhngpkaa
