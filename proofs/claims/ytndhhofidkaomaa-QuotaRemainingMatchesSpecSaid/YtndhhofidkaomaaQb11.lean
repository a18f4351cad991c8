/- Package quota and what its laws compare it with, at this seat's translation.
   Condition: as each theorem states; this text: QtRefExc2. -/
import Derived.Test.YtndhhofidkaomaaQb10
import Derived.Deep.RegionHeld3
import Derived.BigQuiet

set_option linter.all false

/- The reference's Exceeded at a file of a valid tree: the directories whose room is less than the growth. Conditions: the tree's cells lie in memory as they read, its files' bytes too. -/

set_option linter.all false
namespace Go.Proofs.Ytndhhofidkaomaa
open Go.RowKit

set_option maxRecDepth 100000 in
set_option maxHeartbeats 6400000 in
theorem refExc_any (a : Option Addr) (c : Nat) (t : Tr) (m s : Nat) (w : World) (hd : Head t) (p4 : Pass t 4) (hm : m < t.length) (hk : (nod t m).k = 2) (hs : s ≤ 200) (h : DNods w w.heap.size a c t) :
    Calls Try.prog 15 #[.agg #[.slice a t.length c], .int .i64 (m : Int), .int .i64 (s : Int)] w fun e w' => ∃ v, e = .returned v ∧ w'.ownsRow w.heap.size 3 1 v (exL t m ((s : Int) - (nod t m).dl) t.length).length (intL (exL t m ((s : Int) - (nod t m).dl) t.length)) ∧ Below w.heap.size w w' := by
  have h1 := Pass.ok1 hd (p4.mono (by omega))
  have H := Lib.hid h
  have H1 := Lib.hid h1
  have h40 := h1.le
  have hmk := make_bytes s hs
  have C1 := Lib.hid (fun W (hb : Below w.heap.size w W) => clone_any a c t W h1 (h.up hb))
  unfold ClonePost at C1
  have HF := Lib.hid (show ∀ j, j < t.length → NFit (nod t j) from fun j hj => by obtain ⟨_, _, _, _, _, _, _, _, _, hs⟩ := h.nd.one hj; exact hs.nfit)
  have HUT := Lib.hid (fun i (hi : i < t.length) W (hb : Below w.heap.size w W) => refUse_any a c t i W hd (p4.mono (by omega)) hi (h.nd.up hb))
  have HUU := Lib.hid (fun i (hi : i < t.length) (hq : (nod t i).q ≠ 0) (R cap : Nat) W (hn : Nods W W.heap.size (some ⟨R, 0, none⟩) cap (reSize t m s)) =>
    (show Calls Try.prog 10 #[.agg #[.slice (some ⟨R, 0, none⟩) t.length cap], .int .i64 (i : Int)] W fun e w' => e = .returned (.int .i64 (usgN (reSize t m s) i : Nat)) ∧ Below W.heap.size W w' from by
      have hk1 : (nod t i).k ≠ 0 := fun h0 => hq ((h1.fine i).dir (by rw [h0]; decide)).2
      have := refUsage_any (some ⟨R, 0, none⟩) cap (reSize t m s) i W (ok1_re hm h1 hk hs) (from_re hm (Pass.from_ hd (p4.mono (by omega)) hi hk1).1) hn
      rw [re_len] at this
      exact this))
  have HX := Lib.hid (fun i (hi : i < t.length) => exB_iff (s := s) hd p4 hm hi)
  have HXS := Lib.hid (fun i => exL_succ t m ((s : Int) - (nod t m).dl) i)
  have HXL := Lib.hid (fun i => exL_len t m ((s : Int) - (nod t m).dl) i)
  have HX0 := Lib.hid (show exL t m ((s : Int) - (nod t m).dl) 0 = [] from rfl)
  have HU1 := Lib.hid (fun i => (show usgN (reSize t m s) i ≤ 8000 from usg_le (ok1_re hm h1 hk hs) _))
  have T0 := Lib.hid (One.new w (.slice a t.length c) 24)
  have B0 := Lib.hid ((Below.refl w.heap.size w).alloc (Nat.le_refl _) (.cells #[.slice a t.length c] 24))
  have hne := h1.ne
  have mlz : (m : Int) < (t.length : Int) := by omega
  have mz : (0 : Int) ≤ (m : Int) := Int.natCast_nonneg _
  clear h hd p4 hk h1
  go_enter Try.func15, Try.ntmps15
  go_wp2_with fail
  refine (C1.out _ B0.out).mono ?_
  rintro e W1 ⟨v, rfl, hct, b1⟩
  obtain ⟨R, cap, rfl, hR1, hR2, hRf, hRc, hRN⟩ := hct.resized hne HF.out h40
  have HRN := Lib.hid hRN
  obtain ⟨ux, hux⟩ := hRc (m * 8 + 3) (by omega)
  have hrf := hRf (m * 8 + 3)
  have hB0 := B0.out.size
  have hBs := b1.size
  simp only [World.size_alloc] at hB0 hBs hR1
  have BW1 := Lib.hid (B0.out.trans (b1.mono B0.out.size))
  have TW1 := Lib.hid (T0.out.below b1 T0.out.lt)
  have B1 := Lib.hid ((B0.out.trans (b1.mono B0.out.size)).alloc (by omega) (.cells #[.slice (some ⟨R, 0, none⟩) t.length cap] 24))
  have T1 := Lib.hid ((T0.out.below b1 T0.out.lt).alloc (.cells #[.slice (some ⟨R, 0, none⟩) t.length cap] 24))
  have U1 := Lib.hid (One.new W1 (.slice (some ⟨R, 0, none⟩) t.length cap) 24)
  have D1 := Lib.hid ((Below.refl W1.heap.size W1).alloc (Nat.le_refl _) (.cells #[.slice (some ⟨R, 0, none⟩) t.length cap] 24))
  have u0 := U1.out.c0
  have ul := U1.out.lt
  have rl : R < W1.heap.size + 1 := by omega
  have rx : (W1.alloc (.cells #[.slice (some ⟨R, 0, none⟩) t.length cap] 24)).cell? ⟨R, m * 8 + 3, none⟩ = some ux := (D1.out.cell (p := ⟨R, m * 8 + 3, none⟩) hR2).trans hux
  have rf : (W1.alloc (.cells #[.slice (some ⟨R, 0, none⟩) t.length cap] 24)).frozen? ⟨R, m * 8 + 3, none⟩ = false := (D1.out.frozen (p := ⟨R, m * 8 + 3, none⟩) hR2).trans hrf
  clear hct hRf hRc hRN b1 T0 B0 C1 hux hrf
  go_wp2_with fail
  go_region
  have NZ := (HRN.out m s hm hs W1 (some ⟨W1.heap.size + 1, 0, none⟩) s (Below.refl _ _) (Nat.le_refl _)).more (show W1.heap.size ≤ (W1.setCell ⟨R, m * 8 + 3, none⟩ (.slice (some ⟨W1.heap.size + 1, 0, none⟩) s s)).heap.size by simp) |>.up ((((Below.refl (W1.setCell ⟨R, m * 8 + 3, none⟩ (.slice (some ⟨W1.heap.size + 1, 0, none⟩) s s)).heap.size (W1.setCell ⟨R, m * 8 + 3, none⟩ (.slice (some ⟨W1.heap.size + 1, 0, none⟩) s s))).alloc (Nat.le_refl _) (.cells #[.slice (some ⟨R, 0, none⟩) t.length cap] 24)).alloc (by simp) (.cells (madeCells #[.int .u8 0] s) 5)).drew)
  have BZ := ((((BW1.out.setCell (p := ⟨R, m * 8 + 3, none⟩) (by simp; omega) (.slice (some ⟨W1.heap.size + 1, 0, none⟩) s s)).alloc (by simp; omega) (.cells #[.slice (some ⟨R, 0, none⟩) t.length cap] 24)).alloc (by simp; omega) (.cells (madeCells #[.int .u8 0] s) 5)).drew)
  have TZ := ((((TW1.out.far (p := ⟨R, m * 8 + 3, none⟩) (by simp; omega) (.slice (some ⟨W1.heap.size + 1, 0, none⟩) s s)).alloc (.cells #[.slice (some ⟨R, 0, none⟩) t.length cap] 24)).alloc (.cells (madeCells #[.int .u8 0] s) 5)).drew)
  have UZ := (((One.new (W1.setCell ⟨R, m * 8 + 3, none⟩ (.slice (some ⟨W1.heap.size + 1, 0, none⟩) s s)) (.slice (some ⟨R, 0, none⟩) t.length cap) 24).at_ (show _ = W1.heap.size by simp)).alloc (.cells (madeCells #[.int .u8 0] s) 5)).drew
  clear D1 B1 T1 U1 u0 ul rl rx rf BW1 TW1
  generalize hq : (((W1.setCell ⟨R, m * 8 + 3, none⟩ (.slice (some ⟨W1.heap.size + 1, 0, none⟩) s s)).alloc (.cells #[.slice (some ⟨R, 0, none⟩) t.length cap] 24)).alloc (.cells (madeCells #[.int .u8 0] s) 5)).drew = Z at *
  clear hq
  have NZZ := Lib.hid NZ
  have BZZ := Lib.hid BZ
  have TZZ := Lib.hid TZ
  have UZZ := Lib.hid UZ
  have UC := Lib.hid (fun i (hi : i < t.length) (hq : (nod t i).q ≠ 0) W (hb : Below Z.heap.size Z W) => HUU.out i hi hq R cap W (NZ.up hb))
  have hul := UZ.lt
  have htl := TZ.lt
  generalize W1.heap.size = nu at *
  clear NZ BZ TZ UZ HUU HRN
  generalize (.slice (some ⟨R, 0, none⟩) t.length cap : Value) = uv at *
  go_wp2_with fail
  go_loopg [8, 9] t.length (fun gg s8 s9 wr => ∃ k : Nat, k ≤ t.length ∧ t.length - k ≤ gg ∧ s9 = .int .i64 k ∧ Aside (Below Z.heap.size Z wr) ∧ Aside (wr.ownsRow Z.heap.size 3 1 s8 (exL t m ((s : Int) - (nod t m).dl) k).length (intL (exL t m ((s : Int) - (nod t m).dl) k))))
  case atStart => exact ⟨0, by omega, by omega, rfl, Below.refl _ _, (by rw [HX0.out]; exact World.ownsRow_nil _ _ _ _ : Z.ownsRow Z.heap.size 3 1 (.slice none 0 0) _ _)⟩
  case round =>
    obtain ⟨k, hk, hg, rfl, BB, OO⟩ := hrel
    obtain ⟨oa, oc, rfl⟩ := own_formQ OO.out
    have TT := Lib.hid (TZZ.out.below BB.out htl)
    have UU := Lib.hid (UZZ.out.below BB.out hul)
    have BW := Lib.hid (BZZ.out.trans (BB.out.mono BZZ.out.size))
    have t0 := TT.out.c0
    have tl := TT.out.lt
    have u0 := UU.out.c0
    have ul := UU.out.lt
    by_cases hlt : k < t.length
    · have hltz : (k : Int) < (t.length : Int) := by omega
      have hi0 : (0 : Int) ≤ (k : Int) := Int.natCast_nonneg _
      have hm9 : t.length - (k + 1) < t.length - k := Nat.sub_lt_sub_left hlt (Nat.lt_succ_self k)
      obtain ⟨b, o, ve, vd, va, vx, rfl, hb, hc, hs9⟩ := (H.out.nd.below BW.out).one hlt
      have h6 := hc.c6
      have hbl : b < wr.heap.size := Nat.lt_of_lt_of_le hb BW.out.size
      have HI := HX.out k hlt
      have HS := Lib.hid (HXS.out k)
      have HLn := HXL.out k
      have HT := Lib.hid (HUT.out k hlt)
      have hu1 := HU1.out k
      unfold exB at HI
      have hul0 : usgN t k ≤ 8000 := usg_le H1.out (visits t k)
      have HUC := Lib.hid (UC.out k hlt)
      clear hc hs9
      generalize usgN (reSize t m s) k = uN at *
      generalize usgN t k = u9 at *
      generalize (nod t k).q = gq at *
      generalize exL t m ((s : Int) - (nod t m).dl) k = ls at *
      have K := Lib.hid (fun y (hy : Below wr.heap.size wr y) => (show Below wr.heap.size wr y ∧ y.cell? ⟨nu, 0, none⟩ = some uv ∧ y.cell? ⟨w.heap.size, 0, none⟩ = some (.slice (some ⟨b, o, none⟩) t.length c) ∧ y.cell? ⟨b, o + k * 8 + 6, none⟩ = some (.int .i64 gq) from
        ⟨hy, (hy.cell (p := ⟨nu, 0, none⟩) ul).trans u0, (hy.cell (p := ⟨w.heap.size, 0, none⟩) tl).trans t0, (hy.cell (p := ⟨b, o + k * 8 + 6, none⟩) hbl).trans h6⟩))
      by_cases hq : 0 < gq
      · have hqb : decide (0 < gq) = true := decide_eq_true hq
        have HV := Lib.hid (HUC.out (by omega))
        by_cases hq2 : gq < (uN : Int)
        · have hq2b : decide (gq < (uN : Int)) = true := decide_eq_true hq2
          by_cases hq3 : (u9 : Int) < (uN : Int)
          · have hq3b : decide ((u9 : Int) < (uN : Int)) = true := decide_eq_true hq3
            have hq3n : u9 < uN := by omega
            have hq3c : decide (u9 < uN) = true := decide_eq_true hq3n
            have HN := Lib.hid (show exL t m ((s : Int) - (nod t m).dl) (k + 1) = ls ++ [(k : Int)] from by rw [HS.out, if_pos (HI.1 ⟨hq, hq2, hq3⟩)])
            clear hq hq2 hq3 HI HS
            have z0 := (Below.refl wr.heap.size wr).drew
            have BBX := Lib.hid (fun y (hy : Below wr.heap.size wr y) => BB.out.trans (hy.mono BB.out.size))
            have BWX := Lib.hid (fun y (hy : Below wr.heap.size wr y) => BW.out.trans (hy.mono BW.out.size))
            go_wp2_with fail
            refine wp_region_held_drew (S := (fun y => Below wr.heap.size wr y ∧ y.cell? ⟨nu, 0, none⟩ = some uv ∧ y.cell? ⟨w.heap.size, 0, none⟩ = some (.slice (some ⟨b, o, none⟩) t.length c) ∧ y.cell? ⟨b, o + k * 8 + 6, none⟩ = some (.int .i64 gq))) (by kernel_rfl) (K.out _ (Below.refl _ _).drew) (fun hHeld => ?_)
            refine wpAnyH_take (i := 0) (oi := { dst := some 26, op := Op.fieldAddr 24 (Operand.tmp 3) 0, type := 0, pos := "more.go:103", after := #[], guard := none }) (v := ?vp0) rfl (by kernel_rfl) (by kernel_rfl) (by kernel_rfl) (fun _ _ _ h => h) (Or.inl ⟨by rfl, ?yp0⟩) (by assumption) ?rp0
            case yp0 =>
              intro wz hSw
              try dsimp only at hSw
              go_simp
              try with_reducible rfl
            try simp only [Act.put, List.setIfInBounds_toArray, List.set_cons_zero, List.set_cons_succ]
            refine wpAnyH_take (i := 1) (oi := { dst := some 27, op := Op.load 22 (Operand.tmp 26), type := 22, pos := "more.go:103", after := #[{ on := 0, ground := Ground.data }], guard := none }) (v := ?vp1) rfl (by kernel_rfl) (by kernel_rfl) (by kernel_rfl) (fun _ _ _ h => h) (Or.inl ⟨by rfl, ?yp1⟩) (by assumption) ?rp1
            case yp1 =>
              intro wz hSw
              try dsimp only at hSw
              go_simp
              try with_reducible rfl
            try simp only [Act.put, List.setIfInBounds_toArray, List.set_cons_zero, List.set_cons_succ]
            refine wpAnyH_take (i := 2) (oi := { dst := some 28, op := Op.move (Operand.tmp 9), type := 3, pos := "more.go:103", after := #[], guard := none }) (v := ?vp2) rfl (by kernel_rfl) (by kernel_rfl) (by kernel_rfl) (fun _ _ _ h => h) (Or.inl ⟨by rfl, ?yp2⟩) (by assumption) ?rp2
            case yp2 =>
              intro wz hSw
              try dsimp only at hSw
              go_simp
              try with_reducible rfl
            try simp only [Act.put, List.setIfInBounds_toArray, List.set_cons_zero, List.set_cons_succ]
            refine wpAnyH_take (i := 3) (oi := { dst := some 29, op := Op.indexAddr 22 (Operand.tmp 27) (Operand.tmp 28), type := 0, pos := "more.go:103", after := #[{ on := 1, ground := Ground.data }, { on := 2, ground := Ground.data }], guard := none }) (v := ?vp3) rfl (by kernel_rfl) (by kernel_rfl) (by kernel_rfl) (fun _ _ _ h => h) (Or.inl ⟨by rfl, ?yp3⟩) (by assumption) ?rp3
            case yp3 =>
              intro wz hSw
              try dsimp only at hSw
              go_simp
              try with_reducible rfl
            try simp only [Act.put, List.setIfInBounds_toArray, List.set_cons_zero, List.set_cons_succ]
            refine wpAnyH_take (i := 4) (oi := { dst := some 30, op := Op.fieldAddr 47 (Operand.tmp 29) 6, type := 0, pos := "more.go:103", after := #[{ on := 3, ground := Ground.data }], guard := none }) (v := ?vp4) rfl (by kernel_rfl) (by kernel_rfl) (by kernel_rfl) (fun _ _ _ h => h) (Or.inl ⟨by rfl, ?yp4⟩) (by assumption) ?rp4
            case yp4 =>
              intro wz hSw
              try dsimp only at hSw
              go_simp
              try with_reducible rfl
            try simp only [Act.put, List.setIfInBounds_toArray, List.set_cons_zero, List.set_cons_succ]
            refine wpAnyH_take (i := 5) (oi := { dst := some 31, op := Op.load 3 (Operand.tmp 30), type := 3, pos := "more.go:103", after := #[{ on := 4, ground := Ground.data }], guard := none }) (v := ?vp5) rfl (by kernel_rfl) (by kernel_rfl) (by kernel_rfl) (fun _ _ _ h => h) (Or.inl ⟨by rfl, ?yp5⟩) (by assumption) ?rp5
            case yp5 =>
              intro wz hSw
              try dsimp only at hSw
              go_simp
              try with_reducible rfl
            try simp only [Act.put, List.setIfInBounds_toArray, List.set_cons_zero, List.set_cons_succ]
            refine wpAnyH_take (i := 6) (oi := { dst := some 32, op := Op.binOp BinOp.gtr 3 (Operand.tmp 31) (Operand.const (Value.int IntKind.i64 0)) 3, type := 4, pos := "more.go:103", after := #[{ on := 5, ground := Ground.data }], guard := none }) (v := ?vp6) rfl (by kernel_rfl) (by kernel_rfl) (by kernel_rfl) (fun _ _ _ h => h) (Or.inl ⟨by rfl, ?yp6⟩) (by assumption) ?rp6
            case yp6 =>
              intro wz hSw
              try dsimp only at hSw
              go_simp
              try with_reducible rfl
            try simp only [Act.put, List.setIfInBounds_toArray, List.set_cons_zero, List.set_cons_succ]
            refine wpAnyH_take (i := 7) (oi := { dst := some 33, op := Op.move (Operand.tmp 32), type := 4, pos := "more.go:103", after := #[{ on := 6, ground := Ground.data }], guard := none }) (v := ?vp7) rfl (by kernel_rfl) (by kernel_rfl) (by kernel_rfl) (fun _ _ _ h => h) (Or.inl ⟨by rfl, ?yp7⟩) (by assumption) ?rp7
            case yp7 =>
              intro wz hSw
              try dsimp only at hSw
              go_simp
              try with_reducible rfl
            try simp only [Act.put, List.setIfInBounds_toArray, List.set_cons_zero, List.set_cons_succ]
            refine wpAnyH_take (i := 8) (oi := { dst := some 34, op := Op.load 24 (Operand.tmp 7), type := 24, pos := "more.go:103", after := #[{ on := 7, ground := Ground.guard }], guard := some (7, true) }) (v := ?vp8) rfl (by kernel_rfl) (by kernel_rfl) (by kernel_rfl) (fun _ _ _ h => h) (Or.inl ⟨by rfl, ?yp8⟩) (by assumption) ?rp8
            case yp8 =>
              intro wz hSw
              try dsimp only at hSw
              go_simp
              try with_reducible rfl
            try simp only [Act.put, List.setIfInBounds_toArray, List.set_cons_zero, List.set_cons_succ]
            refine wpAnyH_take (i := 9) (oi := { dst := some 35, op := Op.move (Operand.tmp 9), type := 3, pos := "more.go:103", after := #[{ on := 7, ground := Ground.guard }], guard := some (7, true) }) (v := ?vp9) rfl (by kernel_rfl) (by kernel_rfl) (by kernel_rfl) (fun _ _ _ h => h) (Or.inl ⟨by rfl, ?yp9⟩) (by assumption) ?rp9
            case yp9 =>
              intro wz hSw
              try dsimp only at hSw
              go_simp
              try with_reducible rfl
            try simp only [Act.put, List.setIfInBounds_toArray, List.set_cons_zero, List.set_cons_succ]
            refine wpAnyH_take (i := 11) (oi := { dst := some 37, op := Op.fieldAddr 24 (Operand.tmp 3) 0, type := 0, pos := "more.go:103", after := #[{ on := 7, ground := Ground.guard }], guard := some (7, true) }) (v := ?vp11) rfl (by kernel_rfl) (by kernel_rfl) (by kernel_rfl) (fun _ _ _ h => h) (Or.inl ⟨by rfl, ?yp11⟩) (by assumption) ?rp11
            case yp11 =>
              intro wz hSw
              try dsimp only at hSw
              go_simp
              try with_reducible rfl
            try simp only [Act.put, List.setIfInBounds_toArray, List.set_cons_zero, List.set_cons_succ]
            refine wpAnyH_take (i := 12) (oi := { dst := some 38, op := Op.load 22 (Operand.tmp 37), type := 22, pos := "more.go:103", after := #[{ on := 11, ground := Ground.data }, { on := 7, ground := Ground.guard }], guard := some (7, true) }) (v := ?vp12) rfl (by kernel_rfl) (by kernel_rfl) (by kernel_rfl) (fun _ _ _ h => h) (Or.inl ⟨by rfl, ?yp12⟩) (by assumption) ?rp12
            case yp12 =>
              intro wz hSw
              try dsimp only at hSw
              go_simp
              try with_reducible rfl
            try simp only [Act.put, List.setIfInBounds_toArray, List.set_cons_zero, List.set_cons_succ]
            refine wpAnyH_take (i := 13) (oi := { dst := some 39, op := Op.move (Operand.tmp 9), type := 3, pos := "more.go:103", after := #[{ on := 7, ground := Ground.guard }], guard := some (7, true) }) (v := ?vp13) rfl (by kernel_rfl) (by kernel_rfl) (by kernel_rfl) (fun _ _ _ h => h) (Or.inl ⟨by rfl, ?yp13⟩) (by assumption) ?rp13
            case yp13 =>
              intro wz hSw
              try dsimp only at hSw
              go_simp
              try with_reducible rfl
            try simp only [Act.put, List.setIfInBounds_toArray, List.set_cons_zero, List.set_cons_succ]
            refine wpAnyH_take (i := 14) (oi := { dst := some 40, op := Op.indexAddr 22 (Operand.tmp 38) (Operand.tmp 39), type := 0, pos := "more.go:103", after := #[{ on := 12, ground := Ground.data }, { on := 13, ground := Ground.data }, { on := 7, ground := Ground.guard }], guard := some (7, true) }) (v := ?vp14) rfl (by kernel_rfl) (by kernel_rfl) (by kernel_rfl) (fun _ _ _ h => h) (Or.inl ⟨by rfl, ?yp14⟩) (by assumption) ?rp14
            case yp14 =>
              intro wz hSw
              try dsimp only at hSw
              go_simp
              try with_reducible rfl
            try simp only [Act.put, List.setIfInBounds_toArray, List.set_cons_zero, List.set_cons_succ]
            refine wpAnyH_take (i := 15) (oi := { dst := some 41, op := Op.fieldAddr 47 (Operand.tmp 40) 6, type := 0, pos := "more.go:103", after := #[{ on := 14, ground := Ground.data }, { on := 7, ground := Ground.guard }], guard := some (7, true) }) (v := ?vp15) rfl (by kernel_rfl) (by kernel_rfl) (by kernel_rfl) (fun _ _ _ h => h) (Or.inl ⟨by rfl, ?yp15⟩) (by assumption) ?rp15
            case yp15 =>
              intro wz hSw
              try dsimp only at hSw
              go_simp
              try with_reducible rfl
            try simp only [Act.put, List.setIfInBounds_toArray, List.set_cons_zero, List.set_cons_succ]
            refine wpAnyH_take (i := 16) (oi := { dst := some 42, op := Op.load 3 (Operand.tmp 41), type := 3, pos := "more.go:103", after := #[{ on := 15, ground := Ground.data }, { on := 7, ground := Ground.guard }], guard := some (7, true) }) (v := ?vp16) rfl (by kernel_rfl) (by kernel_rfl) (by kernel_rfl) (fun _ _ _ h => h) (Or.inl ⟨by rfl, ?yp16⟩) (by assumption) ?rp16
            case yp16 =>
              intro wz hSw
              try dsimp only at hSw
              go_simp
              try with_reducible rfl
            try simp only [Act.put, List.setIfInBounds_toArray, List.set_cons_zero, List.set_cons_succ]
            refine wpAnyH_ready (rs := [10]) (by kernel_rfl) (by simp) ?_
            refine AllReadyH.cons (o := { dst := some 36, op := Op.call { callee := Callee.value (Operand.func 10), args := #[Operand.tmp 34, Operand.tmp 35], argTypes := #[24, 3] }, type := 3, pos := "more.go:103", after := #[{ on := 8, ground := Ground.data }, { on := 9, ground := Ground.data }, { on := 7, ground := Ground.chain }, { on := 7, ground := Ground.guard }], guard := some (7, true) }) rfl (fun K9 hK9 => ?_) AllReadyH.nil
            go_simp
            refine (HV.out _ (BBX.out _ z0)).mono ?_
            rintro e y1 ⟨rfl, hby1⟩
            have z1 := z0.trans (hby1.mono z0.size)
            try go_wp2_with fail
            refine hK9.out _ _ (K.out _ z1) (fun hHeld2 => ?_)
            clear hK9 K9 hHeld
            try simp only [Act.put, List.setIfInBounds_toArray, List.set_cons_zero, List.set_cons_succ]
            refine wpAnyH_take (i := 17) (oi := { dst := some 43, op := Op.binOp BinOp.gtr 3 (Operand.tmp 36) (Operand.tmp 42) 3, type := 4, pos := "more.go:103", after := #[{ on := 10, ground := Ground.data }, { on := 16, ground := Ground.data }, { on := 7, ground := Ground.guard }], guard := some (7, true) }) (v := ?vp17) rfl (by kernel_rfl) (by kernel_rfl) (by kernel_rfl) (fun _ _ _ h => h) (Or.inl ⟨by rfl, ?yp17⟩) (by assumption) ?rp17
            case yp17 =>
              intro wz hSw
              try dsimp only at hSw
              go_simp
              try with_reducible rfl
            try simp only [Act.put, List.setIfInBounds_toArray, List.set_cons_zero, List.set_cons_succ]
            refine wpAnyH_take (i := 18) (oi := { dst := some 44, op := Op.pick (Operand.tmp 33) (Operand.tmp 43) (Operand.const (Value.bool false)), type := 4, pos := "more.go:103", after := #[{ on := 7, ground := Ground.data }, { on := 17, ground := Ground.data }], guard := none }) (v := ?vp18) rfl (by kernel_rfl) (by kernel_rfl) (by kernel_rfl) (fun _ _ _ h => h) (Or.inl ⟨by rfl, ?yp18⟩) (by assumption) ?rp18
            case yp18 =>
              intro wz hSw
              try dsimp only at hSw
              go_simp
              try with_reducible rfl
            try simp only [Act.put, List.setIfInBounds_toArray, List.set_cons_zero, List.set_cons_succ]
            refine wpAnyH_take (i := 19) (oi := { dst := some 45, op := Op.move (Operand.tmp 44), type := 4, pos := "more.go:103", after := #[{ on := 18, ground := Ground.data }, { on := 10, ground := Ground.chain }], guard := none }) (v := ?vp19) rfl (by kernel_rfl) (by kernel_rfl) (by kernel_rfl) (fun _ _ _ h => h) (Or.inl ⟨by rfl, ?yp19⟩) (by assumption) ?rp19
            case yp19 =>
              intro wz hSw
              try dsimp only at hSw
              go_simp
              try with_reducible rfl
            try simp only [Act.put, List.setIfInBounds_toArray, List.set_cons_zero, List.set_cons_succ]
            refine wpAnyH_take (i := 20) (oi := { dst := some 46, op := Op.load 24 (Operand.tmp 7), type := 24, pos := "more.go:103", after := #[{ on := 19, ground := Ground.guard }], guard := some (19, true) }) (v := ?vp20) rfl (by kernel_rfl) (by kernel_rfl) (by kernel_rfl) (fun _ _ _ h => h) (Or.inl ⟨by rfl, ?yp20⟩) (by assumption) ?rp20
            case yp20 =>
              intro wz hSw
              try dsimp only at hSw
              go_simp
              try with_reducible rfl
            try simp only [Act.put, List.setIfInBounds_toArray, List.set_cons_zero, List.set_cons_succ]
            refine wpAnyH_take (i := 21) (oi := { dst := some 47, op := Op.move (Operand.tmp 9), type := 3, pos := "more.go:103", after := #[{ on := 19, ground := Ground.guard }], guard := some (19, true) }) (v := ?vp21) rfl (by kernel_rfl) (by kernel_rfl) (by kernel_rfl) (fun _ _ _ h => h) (Or.inl ⟨by rfl, ?yp21⟩) (by assumption) ?rp21
            case yp21 =>
              intro wz hSw
              try dsimp only at hSw
              go_simp
              try with_reducible rfl
            try simp only [Act.put, List.setIfInBounds_toArray, List.set_cons_zero, List.set_cons_succ]
            refine wpAnyH_take (i := 23) (oi := { dst := some 49, op := Op.load 24 (Operand.tmp 3), type := 24, pos := "more.go:103", after := #[{ on := 19, ground := Ground.guard }], guard := some (19, true) }) (v := ?vp23) rfl (by kernel_rfl) (by kernel_rfl) (by kernel_rfl) (fun _ _ _ h => h) (Or.inl ⟨by rfl, ?yp23⟩) (by assumption) ?rp23
            case yp23 =>
              intro wz hSw
              try dsimp only at hSw
              go_simp
              try with_reducible rfl
            try simp only [Act.put, List.setIfInBounds_toArray, List.set_cons_zero, List.set_cons_succ]
            refine wpAnyH_take (i := 24) (oi := { dst := some 50, op := Op.move (Operand.tmp 9), type := 3, pos := "more.go:103", after := #[{ on := 19, ground := Ground.guard }], guard := some (19, true) }) (v := ?vp24) rfl (by kernel_rfl) (by kernel_rfl) (by kernel_rfl) (fun _ _ _ h => h) (Or.inl ⟨by rfl, ?yp24⟩) (by assumption) ?rp24
            case yp24 =>
              intro wz hSw
              try dsimp only at hSw
              go_simp
              try with_reducible rfl
            try simp only [Act.put, List.setIfInBounds_toArray, List.set_cons_zero, List.set_cons_succ]
            refine wpAnyH_ready (rs := [22]) (by kernel_rfl) (by simp) ?_
            refine AllReadyH.cons (o := { dst := some 48, op := Op.call { callee := Callee.value (Operand.func 10), args := #[Operand.tmp 46, Operand.tmp 47], argTypes := #[24, 3] }, type := 3, pos := "more.go:103", after := #[{ on := 20, ground := Ground.data }, { on := 21, ground := Ground.data }, { on := 19, ground := Ground.chain }, { on := 19, ground := Ground.guard }], guard := some (19, true) }) rfl (fun K9 hK9 => ?_) AllReadyH.nil
            go_simp
            refine (HV.out _ (BBX.out _ z1)).mono ?_
            rintro e y2 ⟨rfl, hby2⟩
            have z2 := z1.trans (hby2.mono z1.size)
            try go_wp2_with fail
            refine hK9.out _ _ (K.out _ z2) (fun hHeld3 => ?_)
            clear hK9 K9 hHeld2
            try simp only [Act.put, List.setIfInBounds_toArray, List.set_cons_zero, List.set_cons_succ]
            refine wpAnyH_ready (rs := [25]) (by kernel_rfl) (by simp) ?_
            refine AllReadyH.cons (o := { dst := some 51, op := Op.call { callee := Callee.value (Operand.func 10), args := #[Operand.tmp 49, Operand.tmp 50], argTypes := #[24, 3] }, type := 3, pos := "more.go:103", after := #[{ on := 23, ground := Ground.data }, { on := 24, ground := Ground.data }, { on := 22, ground := Ground.chain }, { on := 19, ground := Ground.guard }], guard := some (19, true) }) rfl (fun K9 hK9 => ?_) AllReadyH.nil
            go_simp
            refine (HT.out _ (BWX.out _ z2)).mono ?_
            rintro e y3 ⟨rfl, hby3⟩
            have z3 := z2.trans (hby3.mono z2.size)
            try go_wp2_with fail
            refine hK9.out _ _ (K.out _ z3) (fun hHeld4 => ?_)
            clear hK9 K9 hHeld3
            try simp only [Act.put, List.setIfInBounds_toArray, List.set_cons_zero, List.set_cons_succ]
            refine wpAnyH_take (i := 26) (oi := { dst := some 52, op := Op.binOp BinOp.gtr 3 (Operand.tmp 48) (Operand.tmp 51) 3, type := 4, pos := "more.go:103", after := #[{ on := 22, ground := Ground.data }, { on := 25, ground := Ground.data }, { on := 19, ground := Ground.guard }], guard := some (19, true) }) (v := ?vp26) rfl (by kernel_rfl) (by kernel_rfl) (by kernel_rfl) (fun _ _ _ h => h) (Or.inl ⟨by rfl, ?yp26⟩) (by assumption) ?rp26
            case yp26 =>
              intro wz hSw
              try dsimp only at hSw
              go_simp
              try with_reducible rfl
            try simp only [Act.put, List.setIfInBounds_toArray, List.set_cons_zero, List.set_cons_succ]
            refine wpAnyH_take (i := 27) (oi := { dst := some 53, op := Op.pick (Operand.tmp 45) (Operand.tmp 52) (Operand.const (Value.bool false)), type := 4, pos := "more.go:103", after := #[{ on := 19, ground := Ground.data }, { on := 26, ground := Ground.data }], guard := none }) (v := ?vp27) rfl (by kernel_rfl) (by kernel_rfl) (by kernel_rfl) (fun _ _ _ h => h) (Or.inl ⟨by rfl, ?yp27⟩) (by assumption) ?rp27
            case yp27 =>
              intro wz hSw
              try dsimp only at hSw
              go_simp
              try with_reducible rfl
            try simp only [Act.put, List.setIfInBounds_toArray, List.set_cons_zero, List.set_cons_succ]
            refine wpAnyH_done (by kernel_rfl) ?_ _
            have OZ := Lib.hid (own_below OO.out z3)
            have hzs := z3.size
            have hBs := BB.out.size
            have Q1 := Lib.hid (own_below OZ.out ((Below.refl y3.heap.size y3).alloc (Nat.le_refl _) (.cells #[.int .i64 (k : Int)] 3)))
            have Q2 := Lib.hid (show Z.heap.size ≤ (y3.alloc (.cells #[.int .i64 (k : Int)] 3)).heap.size by simp; omega)
            have Q3 := Lib.hid (show (y3.alloc (.cells #[.int .i64 (k : Int)] 3)).cell? ⟨y3.heap.size, 0, none⟩ = some (.int .i64 (k : Int)) by simp)
            have Q4 := Lib.hid (show ls.length ≤ 100000 by omega)
            have BZ := Lib.hid ((BB.out.trans (z3.mono hBs)).alloc (by omega) (.cells #[.int .i64 (k : Int)] 3))
            have HLO := Lib.hid (own_low OO.out)
            go_wp2_with (at_builtin; refine wpList_append_int rfl (.tmp 54) (.tmp 56) rfl Z.heap.size (.slice oa ls.length oc) ls.length ls rfl Q1.out y3.heap.size (k : Int) rfl Q3.out Q4.out Q2.out ?_; intro v4 W4 ho4 hg4 ha4; obtain ⟨ga, gc, rfl⟩ := own_formQ ho4)
            have FB := Lib.hid (BZ.out.grown hg4 BZ.out.size (fun q hq => HLO.out q hq))
            have FO := Lib.hid (show W4.ownsRow Z.heap.size 3 1 (.slice ga (ls.length + 1) gc) (exL t m ((s : Int) - (nod t m).dl) (k + 1)).length (intL (exL t m ((s : Int) - (nod t m).dl) (k + 1))) from by rw [HN.out, List.length_append]; exact ho4)
            clear ho4 hg4 ha4 Q1 Q2 Q3 Q4 BZ OZ
            go_wp2_with fail
            go_roundg (t.length - (k + 1))
            case measure => exact Nat.lt_of_lt_of_le hm9 hg
            case rel => exact ⟨k + 1, by omega, by omega, by go_num, FB.out, FO.out⟩
          · have hq3b : decide ((u9 : Int) < (uN : Int)) = false := decide_eq_false hq3
            have hq3n : ¬ u9 < uN := by omega
            have hq3c : decide (u9 < uN) = false := decide_eq_false hq3n
            have HN := Lib.hid (show exL t m ((s : Int) - (nod t m).dl) (k + 1) = ls from by rw [HS.out, if_neg (fun e => hq3 (HI.2 e).2.2)])
            clear hq hq2 hq3 HI HS
            have z0 := (Below.refl wr.heap.size wr).drew
            have BBX := Lib.hid (fun y (hy : Below wr.heap.size wr y) => BB.out.trans (hy.mono BB.out.size))
            have BWX := Lib.hid (fun y (hy : Below wr.heap.size wr y) => BW.out.trans (hy.mono BW.out.size))
            go_wp2_with fail
            refine wp_region_held_drew (S := (fun y => Below wr.heap.size wr y ∧ y.cell? ⟨nu, 0, none⟩ = some uv ∧ y.cell? ⟨w.heap.size, 0, none⟩ = some (.slice (some ⟨b, o, none⟩) t.length c) ∧ y.cell? ⟨b, o + k * 8 + 6, none⟩ = some (.int .i64 gq))) (by kernel_rfl) (K.out _ (Below.refl _ _).drew) (fun hHeld => ?_)
            refine wpAnyH_take (i := 0) (oi := { dst := some 26, op := Op.fieldAddr 24 (Operand.tmp 3) 0, type := 0, pos := "more.go:103", after := #[], guard := none }) (v := ?vq0) rfl (by kernel_rfl) (by kernel_rfl) (by kernel_rfl) (fun _ _ _ h => h) (Or.inl ⟨by rfl, ?yq0⟩) (by assumption) ?rq0
            case yq0 =>
              intro wz hSw
              try dsimp only at hSw
              go_simp
              try with_reducible rfl
            try simp only [Act.put, List.setIfInBounds_toArray, List.set_cons_zero, List.set_cons_succ]
            refine wpAnyH_take (i := 1) (oi := { dst := some 27, op := Op.load 22 (Operand.tmp 26), type := 22, pos := "more.go:103", after := #[{ on := 0, ground := Ground.data }], guard := none }) (v := ?vq1) rfl (by kernel_rfl) (by kernel_rfl) (by kernel_rfl) (fun _ _ _ h => h) (Or.inl ⟨by rfl, ?yq1⟩) (by assumption) ?rq1
            case yq1 =>
              intro wz hSw
              try dsimp only at hSw
              go_simp
              try with_reducible rfl
            try simp only [Act.put, List.setIfInBounds_toArray, List.set_cons_zero, List.set_cons_succ]
            refine wpAnyH_take (i := 2) (oi := { dst := some 28, op := Op.move (Operand.tmp 9), type := 3, pos := "more.go:103", after := #[], guard := none }) (v := ?vq2) rfl (by kernel_rfl) (by kernel_rfl) (by kernel_rfl) (fun _ _ _ h => h) (Or.inl ⟨by rfl, ?yq2⟩) (by assumption) ?rq2
            case yq2 =>
              intro wz hSw
              try dsimp only at hSw
              go_simp
              try with_reducible rfl
            try simp only [Act.put, List.setIfInBounds_toArray, List.set_cons_zero, List.set_cons_succ]
            refine wpAnyH_take (i := 3) (oi := { dst := some 29, op := Op.indexAddr 22 (Operand.tmp 27) (Operand.tmp 28), type := 0, pos := "more.go:103", after := #[{ on := 1, ground := Ground.data }, { on := 2, ground := Ground.data }], guard := none }) (v := ?vq3) rfl (by kernel_rfl) (by kernel_rfl) (by kernel_rfl) (fun _ _ _ h => h) (Or.inl ⟨by rfl, ?yq3⟩) (by assumption) ?rq3
            case yq3 =>
              intro wz hSw
              try dsimp only at hSw
              go_simp
              try with_reducible rfl
            try simp only [Act.put, List.setIfInBounds_toArray, List.set_cons_zero, List.set_cons_succ]
            refine wpAnyH_take (i := 4) (oi := { dst := some 30, op := Op.fieldAddr 47 (Operand.tmp 29) 6, type := 0, pos := "more.go:103", after := #[{ on := 3, ground := Ground.data }], guard := none }) (v := ?vq4) rfl (by kernel_rfl) (by kernel_rfl) (by kernel_rfl) (fun _ _ _ h => h) (Or.inl ⟨by rfl, ?yq4⟩) (by assumption) ?rq4
            case yq4 =>
              intro wz hSw
              try dsimp only at hSw
              go_simp
              try with_reducible rfl
            try simp only [Act.put, List.setIfInBounds_toArray, List.set_cons_zero, List.set_cons_succ]
            refine wpAnyH_take (i := 5) (oi := { dst := some 31, op := Op.load 3 (Operand.tmp 30), type := 3, pos := "more.go:103", after := #[{ on := 4, ground := Ground.data }], guard := none }) (v := ?vq5) rfl (by kernel_rfl) (by kernel_rfl) (by kernel_rfl) (fun _ _ _ h => h) (Or.inl ⟨by rfl, ?yq5⟩) (by assumption) ?rq5
            case yq5 =>
              intro wz hSw
              try dsimp only at hSw
              go_simp
              try with_reducible rfl
            try simp only [Act.put, List.setIfInBounds_toArray, List.set_cons_zero, List.set_cons_succ]
            refine wpAnyH_take (i := 6) (oi := { dst := some 32, op := Op.binOp BinOp.gtr 3 (Operand.tmp 31) (Operand.const (Value.int IntKind.i64 0)) 3, type := 4, pos := "more.go:103", after := #[{ on := 5, ground := Ground.data }], guard := none }) (v := ?vq6) rfl (by kernel_rfl) (by kernel_rfl) (by kernel_rfl) (fun _ _ _ h => h) (Or.inl ⟨by rfl, ?yq6⟩) (by assumption) ?rq6
            case yq6 =>
              intro wz hSw
              try dsimp only at hSw
              go_simp
              try with_reducible rfl
            try simp only [Act.put, List.setIfInBounds_toArray, List.set_cons_zero, List.set_cons_succ]
            refine wpAnyH_take (i := 7) (oi := { dst := some 33, op := Op.move (Operand.tmp 32), type := 4, pos := "more.go:103", after := #[{ on := 6, ground := Ground.data }], guard := none }) (v := ?vq7) rfl (by kernel_rfl) (by kernel_rfl) (by kernel_rfl) (fun _ _ _ h => h) (Or.inl ⟨by rfl, ?yq7⟩) (by assumption) ?rq7
            case yq7 =>
              intro wz hSw
              try dsimp only at hSw
              go_simp
              try with_reducible rfl
            try simp only [Act.put, List.setIfInBounds_toArray, List.set_cons_zero, List.set_cons_succ]
            refine wpAnyH_take (i := 8) (oi := { dst := some 34, op := Op.load 24 (Operand.tmp 7), type := 24, pos := "more.go:103", after := #[{ on := 7, ground := Ground.guard }], guard := some (7, true) }) (v := ?vq8) rfl (by kernel_rfl) (by kernel_rfl) (by kernel_rfl) (fun _ _ _ h => h) (Or.inl ⟨by rfl, ?yq8⟩) (by assumption) ?rq8
            case yq8 =>
              intro wz hSw
              try dsimp only at hSw
              go_simp
              try with_reducible rfl
            try simp only [Act.put, List.setIfInBounds_toArray, List.set_cons_zero, List.set_cons_succ]
            refine wpAnyH_take (i := 9) (oi := { dst := some 35, op := Op.move (Operand.tmp 9), type := 3, pos := "more.go:103", after := #[{ on := 7, ground := Ground.guard }], guard := some (7, true) }) (v := ?vq9) rfl (by kernel_rfl) (by kernel_rfl) (by kernel_rfl) (fun _ _ _ h => h) (Or.inl ⟨by rfl, ?yq9⟩) (by assumption) ?rq9
            case yq9 =>
              intro wz hSw
              try dsimp only at hSw
              go_simp
              try with_reducible rfl
            try simp only [Act.put, List.setIfInBounds_toArray, List.set_cons_zero, List.set_cons_succ]
            refine wpAnyH_take (i := 11) (oi := { dst := some 37, op := Op.fieldAddr 24 (Operand.tmp 3) 0, type := 0, pos := "more.go:103", after := #[{ on := 7, ground := Ground.guard }], guard := some (7, true) }) (v := ?vq11) rfl (by kernel_rfl) (by kernel_rfl) (by kernel_rfl) (fun _ _ _ h => h) (Or.inl ⟨by rfl, ?yq11⟩) (by assumption) ?rq11
            case yq11 =>
              intro wz hSw
              try dsimp only at hSw
              go_simp
              try with_reducible rfl
            try simp only [Act.put, List.setIfInBounds_toArray, List.set_cons_zero, List.set_cons_succ]
            refine wpAnyH_take (i := 12) (oi := { dst := some 38, op := Op.load 22 (Operand.tmp 37), type := 22, pos := "more.go:103", after := #[{ on := 11, ground := Ground.data }, { on := 7, ground := Ground.guard }], guard := some (7, true) }) (v := ?vq12) rfl (by kernel_rfl) (by kernel_rfl) (by kernel_rfl) (fun _ _ _ h => h) (Or.inl ⟨by rfl, ?yq12⟩) (by assumption) ?rq12
            case yq12 =>
              intro wz hSw
              try dsimp only at hSw
              go_simp
              try with_reducible rfl
            try simp only [Act.put, List.setIfInBounds_toArray, List.set_cons_zero, List.set_cons_succ]
            refine wpAnyH_take (i := 13) (oi := { dst := some 39, op := Op.move (Operand.tmp 9), type := 3, pos := "more.go:103", after := #[{ on := 7, ground := Ground.guard }], guard := some (7, true) }) (v := ?vq13) rfl (by kernel_rfl) (by kernel_rfl) (by kernel_rfl) (fun _ _ _ h => h) (Or.inl ⟨by rfl, ?yq13⟩) (by assumption) ?rq13
            case yq13 =>
              intro wz hSw
              try dsimp only at hSw
              go_simp
              try with_reducible rfl
            try simp only [Act.put, List.setIfInBounds_toArray, List.set_cons_zero, List.set_cons_succ]
            refine wpAnyH_take (i := 14) (oi := { dst := some 40, op := Op.indexAddr 22 (Operand.tmp 38) (Operand.tmp 39), type := 0, pos := "more.go:103", after := #[{ on := 12, ground := Ground.data }, { on := 13, ground := Ground.data }, { on := 7, ground := Ground.guard }], guard := some (7, true) }) (v := ?vq14) rfl (by kernel_rfl) (by kernel_rfl) (by kernel_rfl) (fun _ _ _ h => h) (Or.inl ⟨by rfl, ?yq14⟩) (by assumption) ?rq14
            case yq14 =>
              intro wz hSw
              try dsimp only at hSw
              go_simp
              try with_reducible rfl
            try simp only [Act.put, List.setIfInBounds_toArray, List.set_cons_zero, List.set_cons_succ]
            refine wpAnyH_take (i := 15) (oi := { dst := some 41, op := Op.fieldAddr 47 (Operand.tmp 40) 6, type := 0, pos := "more.go:103", after := #[{ on := 14, ground := Ground.data }, { on := 7, ground := Ground.guard }], guard := some (7, true) }) (v := ?vq15) rfl (by kernel_rfl) (by kernel_rfl) (by kernel_rfl) (fun _ _ _ h => h) (Or.inl ⟨by rfl, ?yq15⟩) (by assumption) ?rq15
            case yq15 =>
              intro wz hSw
              try dsimp only at hSw
              go_simp
              try with_reducible rfl
            try simp only [Act.put, List.setIfInBounds_toArray, List.set_cons_zero, List.set_cons_succ]
            refine wpAnyH_take (i := 16) (oi := { dst := some 42, op := Op.load 3 (Operand.tmp 41), type := 3, pos := "more.go:103", after := #[{ on := 15, ground := Ground.data }, { on := 7, ground := Ground.guard }], guard := some (7, true) }) (v := ?vq16) rfl (by kernel_rfl) (by kernel_rfl) (by kernel_rfl) (fun _ _ _ h => h) (Or.inl ⟨by rfl, ?yq16⟩) (by assumption) ?rq16
            case yq16 =>
              intro wz hSw
              try dsimp only at hSw
              go_simp
              try with_reducible rfl
            try simp only [Act.put, List.setIfInBounds_toArray, List.set_cons_zero, List.set_cons_succ]
            refine wpAnyH_ready (rs := [10]) (by kernel_rfl) (by simp) ?_
            refine AllReadyH.cons (o := { dst := some 36, op := Op.call { callee := Callee.value (Operand.func 10), args := #[Operand.tmp 34, Operand.tmp 35], argTypes := #[24, 3] }, type := 3, pos := "more.go:103", after := #[{ on := 8, ground := Ground.data }, { on := 9, ground := Ground.data }, { on := 7, ground := Ground.chain }, { on := 7, ground := Ground.guard }], guard := some (7, true) }) rfl (fun K9 hK9 => ?_) AllReadyH.nil
            go_simp
            refine (HV.out _ (BBX.out _ z0)).mono ?_
            rintro e y1 ⟨rfl, hby1⟩
            have z1 := z0.trans (hby1.mono z0.size)
            try go_wp2_with fail
            refine hK9.out _ _ (K.out _ z1) (fun hHeld2 => ?_)
            clear hK9 K9 hHeld
            try simp only [Act.put, List.setIfInBounds_toArray, List.set_cons_zero, List.set_cons_succ]
            refine wpAnyH_take (i := 17) (oi := { dst := some 43, op := Op.binOp BinOp.gtr 3 (Operand.tmp 36) (Operand.tmp 42) 3, type := 4, pos := "more.go:103", after := #[{ on := 10, ground := Ground.data }, { on := 16, ground := Ground.data }, { on := 7, ground := Ground.guard }], guard := some (7, true) }) (v := ?vq17) rfl (by kernel_rfl) (by kernel_rfl) (by kernel_rfl) (fun _ _ _ h => h) (Or.inl ⟨by rfl, ?yq17⟩) (by assumption) ?rq17
            case yq17 =>
              intro wz hSw
              try dsimp only at hSw
              go_simp
              try with_reducible rfl
            try simp only [Act.put, List.setIfInBounds_toArray, List.set_cons_zero, List.set_cons_succ]
            refine wpAnyH_take (i := 18) (oi := { dst := some 44, op := Op.pick (Operand.tmp 33) (Operand.tmp 43) (Operand.const (Value.bool false)), type := 4, pos := "more.go:103", after := #[{ on := 7, ground := Ground.data }, { on := 17, ground := Ground.data }], guard := none }) (v := ?vq18) rfl (by kernel_rfl) (by kernel_rfl) (by kernel_rfl) (fun _ _ _ h => h) (Or.inl ⟨by rfl, ?yq18⟩) (by assumption) ?rq18
            case yq18 =>
              intro wz hSw
              try dsimp only at hSw
              go_simp
              try with_reducible rfl
            try simp only [Act.put, List.setIfInBounds_toArray, List.set_cons_zero, List.set_cons_succ]
            refine wpAnyH_take (i := 19) (oi := { dst := some 45, op := Op.move (Operand.tmp 44), type := 4, pos := "more.go:103", after := #[{ on := 18, ground := Ground.data }, { on := 10, ground := Ground.chain }], guard := none }) (v := ?vq19) rfl (by kernel_rfl) (by kernel_rfl) (by kernel_rfl) (fun _ _ _ h => h) (Or.inl ⟨by rfl, ?yq19⟩) (by assumption) ?rq19
            case yq19 =>
              intro wz hSw
              try dsimp only at hSw
              go_simp
              try with_reducible rfl
            try simp only [Act.put, List.setIfInBounds_toArray, List.set_cons_zero, List.set_cons_succ]
            refine wpAnyH_take (i := 20) (oi := { dst := some 46, op := Op.load 24 (Operand.tmp 7), type := 24, pos := "more.go:103", after := #[{ on := 19, ground := Ground.guard }], guard := some (19, true) }) (v := ?vq20) rfl (by kernel_rfl) (by kernel_rfl) (by kernel_rfl) (fun _ _ _ h => h) (Or.inl ⟨by rfl, ?yq20⟩) (by assumption) ?rq20
            case yq20 =>
              intro wz hSw
              try dsimp only at hSw
              go_simp
              try with_reducible rfl
            try simp only [Act.put, List.setIfInBounds_toArray, List.set_cons_zero, List.set_cons_succ]
            refine wpAnyH_take (i := 21) (oi := { dst := some 47, op := Op.move (Operand.tmp 9), type := 3, pos := "more.go:103", after := #[{ on := 19, ground := Ground.guard }], guard := some (19, true) }) (v := ?vq21) rfl (by kernel_rfl) (by kernel_rfl) (by kernel_rfl) (fun _ _ _ h => h) (Or.inl ⟨by rfl, ?yq21⟩) (by assumption) ?rq21
            case yq21 =>
              intro wz hSw
              try dsimp only at hSw
              go_simp
              try with_reducible rfl
            try simp only [Act.put, List.setIfInBounds_toArray, List.set_cons_zero, List.set_cons_succ]
            refine wpAnyH_take (i := 23) (oi := { dst := some 49, op := Op.load 24 (Operand.tmp 3), type := 24, pos := "more.go:103", after := #[{ on := 19, ground := Ground.guard }], guard := some (19, true) }) (v := ?vq23) rfl (by kernel_rfl) (by kernel_rfl) (by kernel_rfl) (fun _ _ _ h => h) (Or.inl ⟨by rfl, ?yq23⟩) (by assumption) ?rq23
            case yq23 =>
              intro wz hSw
              try dsimp only at hSw
              go_simp
              try with_reducible rfl
            try simp only [Act.put, List.setIfInBounds_toArray, List.set_cons_zero, List.set_cons_succ]
            refine wpAnyH_take (i := 24) (oi := { dst := some 50, op := Op.move (Operand.tmp 9), type := 3, pos := "more.go:103", after := #[{ on := 19, ground := Ground.guard }], guard := some (19, true) }) (v := ?vq24) rfl (by kernel_rfl) (by kernel_rfl) (by kernel_rfl) (fun _ _ _ h => h) (Or.inl ⟨by rfl, ?yq24⟩) (by assumption) ?rq24
            case yq24 =>
              intro wz hSw
              try dsimp only at hSw
              go_simp
              try with_reducible rfl
            try simp only [Act.put, List.setIfInBounds_toArray, List.set_cons_zero, List.set_cons_succ]
            refine wpAnyH_ready (rs := [22]) (by kernel_rfl) (by simp) ?_
            refine AllReadyH.cons (o := { dst := some 48, op := Op.call { callee := Callee.value (Operand.func 10), args := #[Operand.tmp 46, Operand.tmp 47], argTypes := #[24, 3] }, type := 3, pos := "more.go:103", after := #[{ on := 20, ground := Ground.data }, { on := 21, ground := Ground.data }, { on := 19, ground := Ground.chain }, { on := 19, ground := Ground.guard }], guard := some (19, true) }) rfl (fun K9 hK9 => ?_) AllReadyH.nil
            go_simp
            refine (HV.out _ (BBX.out _ z1)).mono ?_
            rintro e y2 ⟨rfl, hby2⟩
            have z2 := z1.trans (hby2.mono z1.size)
            try go_wp2_with fail
            refine hK9.out _ _ (K.out _ z2) (fun hHeld3 => ?_)
            clear hK9 K9 hHeld2
            try simp only [Act.put, List.setIfInBounds_toArray, List.set_cons_zero, List.set_cons_succ]
            refine wpAnyH_ready (rs := [25]) (by kernel_rfl) (by simp) ?_
            refine AllReadyH.cons (o := { dst := some 51, op := Op.call { callee := Callee.value (Operand.func 10), args := #[Operand.tmp 49, Operand.tmp 50], argTypes := #[24, 3] }, type := 3, pos := "more.go:103", after := #[{ on := 23, ground := Ground.data }, { on := 24, ground := Ground.data }, { on := 22, ground := Ground.chain }, { on := 19, ground := Ground.guard }], guard := some (19, true) }) rfl (fun K9 hK9 => ?_) AllReadyH.nil
            go_simp
            refine (HT.out _ (BWX.out _ z2)).mono ?_
            rintro e y3 ⟨rfl, hby3⟩
            have z3 := z2.trans (hby3.mono z2.size)
            try go_wp2_with fail
            refine hK9.out _ _ (K.out _ z3) (fun hHeld4 => ?_)
            clear hK9 K9 hHeld3
            try simp only [Act.put, List.setIfInBounds_toArray, List.set_cons_zero, List.set_cons_succ]
            refine wpAnyH_take (i := 26) (oi := { dst := some 52, op := Op.binOp BinOp.gtr 3 (Operand.tmp 48) (Operand.tmp 51) 3, type := 4, pos := "more.go:103", after := #[{ on := 22, ground := Ground.data }, { on := 25, ground := Ground.data }, { on := 19, ground := Ground.guard }], guard := some (19, true) }) (v := ?vq26) rfl (by kernel_rfl) (by kernel_rfl) (by kernel_rfl) (fun _ _ _ h => h) (Or.inl ⟨by rfl, ?yq26⟩) (by assumption) ?rq26
            case yq26 =>
              intro wz hSw
              try dsimp only at hSw
              go_simp
              try with_reducible rfl
            try simp only [Act.put, List.setIfInBounds_toArray, List.set_cons_zero, List.set_cons_succ]
            refine wpAnyH_take (i := 27) (oi := { dst := some 53, op := Op.pick (Operand.tmp 45) (Operand.tmp 52) (Operand.const (Value.bool false)), type := 4, pos := "more.go:103", after := #[{ on := 19, ground := Ground.data }, { on := 26, ground := Ground.data }], guard := none }) (v := ?vq27) rfl (by kernel_rfl) (by kernel_rfl) (by kernel_rfl) (fun _ _ _ h => h) (Or.inl ⟨by rfl, ?yq27⟩) (by assumption) ?rq27
            case yq27 =>
              intro wz hSw
              try dsimp only at hSw
              go_simp
              try with_reducible rfl
            try simp only [Act.put, List.setIfInBounds_toArray, List.set_cons_zero, List.set_cons_succ]
            refine wpAnyH_done (by kernel_rfl) ?_ _
            go_wp2_with fail
            go_roundg (t.length - (k + 1))
            case measure => exact Nat.lt_of_lt_of_le hm9 hg
            case rel => exact ⟨k + 1, by omega, by omega, by go_num, BB.out.trans (z3.mono BB.out.size), (by rw [HN.out]; exact own_below OO.out z3)⟩
        · have hq2b : decide (gq < (uN : Int)) = false := decide_eq_false hq2
          have HN := Lib.hid (show exL t m ((s : Int) - (nod t m).dl) (k + 1) = ls from by rw [HS.out, if_neg (fun e => hq2 (HI.2 e).2.1)])
          clear hq hq2 HI HS
          go_wp2_with fail
          refine wp_region_held_drew (S := (fun y => Below wr.heap.size wr y ∧ y.cell? ⟨nu, 0, none⟩ = some uv ∧ y.cell? ⟨w.heap.size, 0, none⟩ = some (.slice (some ⟨b, o, none⟩) t.length c) ∧ y.cell? ⟨b, o + k * 8 + 6, none⟩ = some (.int .i64 gq))) (by kernel_rfl) (K.out _ (Below.refl _ _).drew) (fun hHeld => ?_)
          refine wpAnyH_take (i := 0) (oi := { dst := some 26, op := Op.fieldAddr 24 (Operand.tmp 3) 0, type := 0, pos := "more.go:103", after := #[], guard := none }) (v := ?vr0) rfl (by kernel_rfl) (by kernel_rfl) (by kernel_rfl) (fun _ _ _ h => h) (Or.inl ⟨by rfl, ?yr0⟩) (by assumption) ?rr0
          case yr0 =>
            intro wz hSw
            try dsimp only at hSw
            go_simp
            try with_reducible rfl
          try simp only [Act.put, List.setIfInBounds_toArray, List.set_cons_zero, List.set_cons_succ]
          refine wpAnyH_take (i := 1) (oi := { dst := some 27, op := Op.load 22 (Operand.tmp 26), type := 22, pos := "more.go:103", after := #[{ on := 0, ground := Ground.data }], guard := none }) (v := ?vr1) rfl (by kernel_rfl) (by kernel_rfl) (by kernel_rfl) (fun _ _ _ h => h) (Or.inl ⟨by rfl, ?yr1⟩) (by assumption) ?rr1
          case yr1 =>
            intro wz hSw
            try dsimp only at hSw
            go_simp
            try with_reducible rfl
          try simp only [Act.put, List.setIfInBounds_toArray, List.set_cons_zero, List.set_cons_succ]
          refine wpAnyH_take (i := 2) (oi := { dst := some 28, op := Op.move (Operand.tmp 9), type := 3, pos := "more.go:103", after := #[], guard := none }) (v := ?vr2) rfl (by kernel_rfl) (by kernel_rfl) (by kernel_rfl) (fun _ _ _ h => h) (Or.inl ⟨by rfl, ?yr2⟩) (by assumption) ?rr2
          case yr2 =>
            intro wz hSw
            try dsimp only at hSw
            go_simp
            try with_reducible rfl
          try simp only [Act.put, List.setIfInBounds_toArray, List.set_cons_zero, List.set_cons_succ]
          refine wpAnyH_take (i := 3) (oi := { dst := some 29, op := Op.indexAddr 22 (Operand.tmp 27) (Operand.tmp 28), type := 0, pos := "more.go:103", after := #[{ on := 1, ground := Ground.data }, { on := 2, ground := Ground.data }], guard := none }) (v := ?vr3) rfl (by kernel_rfl) (by kernel_rfl) (by kernel_rfl) (fun _ _ _ h => h) (Or.inl ⟨by rfl, ?yr3⟩) (by assumption) ?rr3
          case yr3 =>
            intro wz hSw
            try dsimp only at hSw
            go_simp
            try with_reducible rfl
          try simp only [Act.put, List.setIfInBounds_toArray, List.set_cons_zero, List.set_cons_succ]
          refine wpAnyH_take (i := 4) (oi := { dst := some 30, op := Op.fieldAddr 47 (Operand.tmp 29) 6, type := 0, pos := "more.go:103", after := #[{ on := 3, ground := Ground.data }], guard := none }) (v := ?vr4) rfl (by kernel_rfl) (by kernel_rfl) (by kernel_rfl) (fun _ _ _ h => h) (Or.inl ⟨by rfl, ?yr4⟩) (by assumption) ?rr4
          case yr4 =>
            intro wz hSw
            try dsimp only at hSw
            go_simp
            try with_reducible rfl
          try simp only [Act.put, List.setIfInBounds_toArray, List.set_cons_zero, List.set_cons_succ]
          refine wpAnyH_take (i := 5) (oi := { dst := some 31, op := Op.load 3 (Operand.tmp 30), type := 3, pos := "more.go:103", after := #[{ on := 4, ground := Ground.data }], guard := none }) (v := ?vr5) rfl (by kernel_rfl) (by kernel_rfl) (by kernel_rfl) (fun _ _ _ h => h) (Or.inl ⟨by rfl, ?yr5⟩) (by assumption) ?rr5
          case yr5 =>
            intro wz hSw
            try dsimp only at hSw
            go_simp
            try with_reducible rfl
          try simp only [Act.put, List.setIfInBounds_toArray, List.set_cons_zero, List.set_cons_succ]
          refine wpAnyH_take (i := 6) (oi := { dst := some 32, op := Op.binOp BinOp.gtr 3 (Operand.tmp 31) (Operand.const (Value.int IntKind.i64 0)) 3, type := 4, pos := "more.go:103", after := #[{ on := 5, ground := Ground.data }], guard := none }) (v := ?vr6) rfl (by kernel_rfl) (by kernel_rfl) (by kernel_rfl) (fun _ _ _ h => h) (Or.inl ⟨by rfl, ?yr6⟩) (by assumption) ?rr6
          case yr6 =>
            intro wz hSw
            try dsimp only at hSw
            go_simp
            try with_reducible rfl
          try simp only [Act.put, List.setIfInBounds_toArray, List.set_cons_zero, List.set_cons_succ]
          refine wpAnyH_take (i := 7) (oi := { dst := some 33, op := Op.move (Operand.tmp 32), type := 4, pos := "more.go:103", after := #[{ on := 6, ground := Ground.data }], guard := none }) (v := ?vr7) rfl (by kernel_rfl) (by kernel_rfl) (by kernel_rfl) (fun _ _ _ h => h) (Or.inl ⟨by rfl, ?yr7⟩) (by assumption) ?rr7
          case yr7 =>
            intro wz hSw
            try dsimp only at hSw
            go_simp
            try with_reducible rfl
          try simp only [Act.put, List.setIfInBounds_toArray, List.set_cons_zero, List.set_cons_succ]
          refine wpAnyH_take (i := 8) (oi := { dst := some 34, op := Op.load 24 (Operand.tmp 7), type := 24, pos := "more.go:103", after := #[{ on := 7, ground := Ground.guard }], guard := some (7, true) }) (v := ?vr8) rfl (by kernel_rfl) (by kernel_rfl) (by kernel_rfl) (fun _ _ _ h => h) (Or.inl ⟨by rfl, ?yr8⟩) (by assumption) ?rr8
          case yr8 =>
            intro wz hSw
            try dsimp only at hSw
            go_simp
            try with_reducible rfl
          try simp only [Act.put, List.setIfInBounds_toArray, List.set_cons_zero, List.set_cons_succ]
          refine wpAnyH_take (i := 9) (oi := { dst := some 35, op := Op.move (Operand.tmp 9), type := 3, pos := "more.go:103", after := #[{ on := 7, ground := Ground.guard }], guard := some (7, true) }) (v := ?vr9) rfl (by kernel_rfl) (by kernel_rfl) (by kernel_rfl) (fun _ _ _ h => h) (Or.inl ⟨by rfl, ?yr9⟩) (by assumption) ?rr9
          case yr9 =>
            intro wz hSw
            try dsimp only at hSw
            go_simp
            try with_reducible rfl
          try simp only [Act.put, List.setIfInBounds_toArray, List.set_cons_zero, List.set_cons_succ]
          refine wpAnyH_take (i := 11) (oi := { dst := some 37, op := Op.fieldAddr 24 (Operand.tmp 3) 0, type := 0, pos := "more.go:103", after := #[{ on := 7, ground := Ground.guard }], guard := some (7, true) }) (v := ?vr11) rfl (by kernel_rfl) (by kernel_rfl) (by kernel_rfl) (fun _ _ _ h => h) (Or.inl ⟨by rfl, ?yr11⟩) (by assumption) ?rr11
          case yr11 =>
            intro wz hSw
            try dsimp only at hSw
            go_simp
            try with_reducible rfl
          try simp only [Act.put, List.setIfInBounds_toArray, List.set_cons_zero, List.set_cons_succ]
          refine wpAnyH_take (i := 12) (oi := { dst := some 38, op := Op.load 22 (Operand.tmp 37), type := 22, pos := "more.go:103", after := #[{ on := 11, ground := Ground.data }, { on := 7, ground := Ground.guard }], guard := some (7, true) }) (v := ?vr12) rfl (by kernel_rfl) (by kernel_rfl) (by kernel_rfl) (fun _ _ _ h => h) (Or.inl ⟨by rfl, ?yr12⟩) (by assumption) ?rr12
          case yr12 =>
            intro wz hSw
            try dsimp only at hSw
            go_simp
            try with_reducible rfl
          try simp only [Act.put, List.setIfInBounds_toArray, List.set_cons_zero, List.set_cons_succ]
          refine wpAnyH_take (i := 13) (oi := { dst := some 39, op := Op.move (Operand.tmp 9), type := 3, pos := "more.go:103", after := #[{ on := 7, ground := Ground.guard }], guard := some (7, true) }) (v := ?vr13) rfl (by kernel_rfl) (by kernel_rfl) (by kernel_rfl) (fun _ _ _ h => h) (Or.inl ⟨by rfl, ?yr13⟩) (by assumption) ?rr13
          case yr13 =>
            intro wz hSw
            try dsimp only at hSw
            go_simp
            try with_reducible rfl
          try simp only [Act.put, List.setIfInBounds_toArray, List.set_cons_zero, List.set_cons_succ]
          refine wpAnyH_take (i := 14) (oi := { dst := some 40, op := Op.indexAddr 22 (Operand.tmp 38) (Operand.tmp 39), type := 0, pos := "more.go:103", after := #[{ on := 12, ground := Ground.data }, { on := 13, ground := Ground.data }, { on := 7, ground := Ground.guard }], guard := some (7, true) }) (v := ?vr14) rfl (by kernel_rfl) (by kernel_rfl) (by kernel_rfl) (fun _ _ _ h => h) (Or.inl ⟨by rfl, ?yr14⟩) (by assumption) ?rr14
          case yr14 =>
            intro wz hSw
            try dsimp only at hSw
            go_simp
            try with_reducible rfl
          try simp only [Act.put, List.setIfInBounds_toArray, List.set_cons_zero, List.set_cons_succ]
          refine wpAnyH_take (i := 15) (oi := { dst := some 41, op := Op.fieldAddr 47 (Operand.tmp 40) 6, type := 0, pos := "more.go:103", after := #[{ on := 14, ground := Ground.data }, { on := 7, ground := Ground.guard }], guard := some (7, true) }) (v := ?vr15) rfl (by kernel_rfl) (by kernel_rfl) (by kernel_rfl) (fun _ _ _ h => h) (Or.inl ⟨by rfl, ?yr15⟩) (by assumption) ?rr15
          case yr15 =>
            intro wz hSw
            try dsimp only at hSw
            go_simp
            try with_reducible rfl
          try simp only [Act.put, List.setIfInBounds_toArray, List.set_cons_zero, List.set_cons_succ]
          refine wpAnyH_take (i := 16) (oi := { dst := some 42, op := Op.load 3 (Operand.tmp 41), type := 3, pos := "more.go:103", after := #[{ on := 15, ground := Ground.data }, { on := 7, ground := Ground.guard }], guard := some (7, true) }) (v := ?vr16) rfl (by kernel_rfl) (by kernel_rfl) (by kernel_rfl) (fun _ _ _ h => h) (Or.inl ⟨by rfl, ?yr16⟩) (by assumption) ?rr16
          case yr16 =>
            intro wz hSw
            try dsimp only at hSw
            go_simp
            try with_reducible rfl
          try simp only [Act.put, List.setIfInBounds_toArray, List.set_cons_zero, List.set_cons_succ]
          refine wpAnyH_ready (rs := [10]) (by kernel_rfl) (by simp) ?_
          refine AllReadyH.cons (o := { dst := some 36, op := Op.call { callee := Callee.value (Operand.func 10), args := #[Operand.tmp 34, Operand.tmp 35], argTypes := #[24, 3] }, type := 3, pos := "more.go:103", after := #[{ on := 8, ground := Ground.data }, { on := 9, ground := Ground.data }, { on := 7, ground := Ground.chain }, { on := 7, ground := Ground.guard }], guard := some (7, true) }) rfl (fun K9 hK9 => ?_) AllReadyH.nil
          go_simp
          refine (HV.out _ (BB.out.trans ((Below.refl wr.heap.size wr).drew.mono BB.out.size))).mono ?_
          rintro e y ⟨rfl, hb9⟩
          have hz := (Below.refl wr.heap.size wr).drew.trans hb9
          try go_wp2_with fail
          refine hK9.out _ _ (K.out _ hz) (fun hHeld2 => ?_)
          clear hK9 K9 hHeld
          try simp only [Act.put, List.setIfInBounds_toArray, List.set_cons_zero, List.set_cons_succ]
          refine wpAnyH_take (i := 17) (oi := { dst := some 43, op := Op.binOp BinOp.gtr 3 (Operand.tmp 36) (Operand.tmp 42) 3, type := 4, pos := "more.go:103", after := #[{ on := 10, ground := Ground.data }, { on := 16, ground := Ground.data }, { on := 7, ground := Ground.guard }], guard := some (7, true) }) (v := ?vr17) rfl (by kernel_rfl) (by kernel_rfl) (by kernel_rfl) (fun _ _ _ h => h) (Or.inl ⟨by rfl, ?yr17⟩) (by assumption) ?rr17
          case yr17 =>
            intro wz hSw
            try dsimp only at hSw
            go_simp
            try with_reducible rfl
          try simp only [Act.put, List.setIfInBounds_toArray, List.set_cons_zero, List.set_cons_succ]
          refine wpAnyH_take (i := 18) (oi := { dst := some 44, op := Op.pick (Operand.tmp 33) (Operand.tmp 43) (Operand.const (Value.bool false)), type := 4, pos := "more.go:103", after := #[{ on := 7, ground := Ground.data }, { on := 17, ground := Ground.data }], guard := none }) (v := ?vr18) rfl (by kernel_rfl) (by kernel_rfl) (by kernel_rfl) (fun _ _ _ h => h) (Or.inl ⟨by rfl, ?yr18⟩) (by assumption) ?rr18
          case yr18 =>
            intro wz hSw
            try dsimp only at hSw
            go_simp
            try with_reducible rfl
          try simp only [Act.put, List.setIfInBounds_toArray, List.set_cons_zero, List.set_cons_succ]
          refine wpAnyH_take (i := 19) (oi := { dst := some 45, op := Op.move (Operand.tmp 44), type := 4, pos := "more.go:103", after := #[{ on := 18, ground := Ground.data }, { on := 10, ground := Ground.chain }], guard := none }) (v := ?vr19) rfl (by kernel_rfl) (by kernel_rfl) (by kernel_rfl) (fun _ _ _ h => h) (Or.inl ⟨by rfl, ?yr19⟩) (by assumption) ?rr19
          case yr19 =>
            intro wz hSw
            try dsimp only at hSw
            go_simp
            try with_reducible rfl
          try simp only [Act.put, List.setIfInBounds_toArray, List.set_cons_zero, List.set_cons_succ]
          refine wpAnyH_take (i := 20) (oi := { dst := some 46, op := Op.load 24 (Operand.tmp 7), type := 24, pos := "more.go:103", after := #[{ on := 19, ground := Ground.guard }], guard := some (19, true) }) (v := undef) rfl (by kernel_rfl) (by kernel_rfl) (by kernel_rfl) (fun _ _ _ h => h) (Or.inr ⟨by rfl, rfl⟩) (by assumption) ?_
          try simp only [Act.put, List.setIfInBounds_toArray, List.set_cons_zero, List.set_cons_succ]
          refine wpAnyH_take (i := 21) (oi := { dst := some 47, op := Op.move (Operand.tmp 9), type := 3, pos := "more.go:103", after := #[{ on := 19, ground := Ground.guard }], guard := some (19, true) }) (v := undef) rfl (by kernel_rfl) (by kernel_rfl) (by kernel_rfl) (fun _ _ _ h => h) (Or.inr ⟨by rfl, rfl⟩) (by assumption) ?_
          try simp only [Act.put, List.setIfInBounds_toArray, List.set_cons_zero, List.set_cons_succ]
          refine wpAnyH_take (i := 22) (oi := { dst := some 48, op := Op.call { callee := Callee.value (Operand.func 10), args := #[Operand.tmp 46, Operand.tmp 47], argTypes := #[24, 3] }, type := 3, pos := "more.go:103", after := #[{ on := 20, ground := Ground.data }, { on := 21, ground := Ground.data }, { on := 19, ground := Ground.chain }, { on := 19, ground := Ground.guard }], guard := some (19, true) }) (v := undef) rfl (by kernel_rfl) (by kernel_rfl) (by kernel_rfl) (fun _ _ _ h => h) (Or.inr ⟨by rfl, rfl⟩) (by assumption) ?_
          try simp only [Act.put, List.setIfInBounds_toArray, List.set_cons_zero, List.set_cons_succ]
          refine wpAnyH_take (i := 23) (oi := { dst := some 49, op := Op.load 24 (Operand.tmp 3), type := 24, pos := "more.go:103", after := #[{ on := 19, ground := Ground.guard }], guard := some (19, true) }) (v := undef) rfl (by kernel_rfl) (by kernel_rfl) (by kernel_rfl) (fun _ _ _ h => h) (Or.inr ⟨by rfl, rfl⟩) (by assumption) ?_
          try simp only [Act.put, List.setIfInBounds_toArray, List.set_cons_zero, List.set_cons_succ]
          refine wpAnyH_take (i := 24) (oi := { dst := some 50, op := Op.move (Operand.tmp 9), type := 3, pos := "more.go:103", after := #[{ on := 19, ground := Ground.guard }], guard := some (19, true) }) (v := undef) rfl (by kernel_rfl) (by kernel_rfl) (by kernel_rfl) (fun _ _ _ h => h) (Or.inr ⟨by rfl, rfl⟩) (by assumption) ?_
          try simp only [Act.put, List.setIfInBounds_toArray, List.set_cons_zero, List.set_cons_succ]
          refine wpAnyH_take (i := 25) (oi := { dst := some 51, op := Op.call { callee := Callee.value (Operand.func 10), args := #[Operand.tmp 49, Operand.tmp 50], argTypes := #[24, 3] }, type := 3, pos := "more.go:103", after := #[{ on := 23, ground := Ground.data }, { on := 24, ground := Ground.data }, { on := 22, ground := Ground.chain }, { on := 19, ground := Ground.guard }], guard := some (19, true) }) (v := undef) rfl (by kernel_rfl) (by kernel_rfl) (by kernel_rfl) (fun _ _ _ h => h) (Or.inr ⟨by rfl, rfl⟩) (by assumption) ?_
          try simp only [Act.put, List.setIfInBounds_toArray, List.set_cons_zero, List.set_cons_succ]
          refine wpAnyH_take (i := 26) (oi := { dst := some 52, op := Op.binOp BinOp.gtr 3 (Operand.tmp 48) (Operand.tmp 51) 3, type := 4, pos := "more.go:103", after := #[{ on := 22, ground := Ground.data }, { on := 25, ground := Ground.data }, { on := 19, ground := Ground.guard }], guard := some (19, true) }) (v := undef) rfl (by kernel_rfl) (by kernel_rfl) (by kernel_rfl) (fun _ _ _ h => h) (Or.inr ⟨by rfl, rfl⟩) (by assumption) ?_
          try simp only [Act.put, List.setIfInBounds_toArray, List.set_cons_zero, List.set_cons_succ]
          refine wpAnyH_take (i := 27) (oi := { dst := some 53, op := Op.pick (Operand.tmp 45) (Operand.tmp 52) (Operand.const (Value.bool false)), type := 4, pos := "more.go:103", after := #[{ on := 19, ground := Ground.data }, { on := 26, ground := Ground.data }], guard := none }) (v := ?vr27) rfl (by kernel_rfl) (by kernel_rfl) (by kernel_rfl) (fun _ _ _ h => h) (Or.inl ⟨by rfl, ?yr27⟩) (by assumption) ?rr27
          case yr27 =>
            intro wz hSw
            try dsimp only at hSw
            go_simp
            try with_reducible rfl
          try simp only [Act.put, List.setIfInBounds_toArray, List.set_cons_zero, List.set_cons_succ]
          refine wpAnyH_done (by kernel_rfl) ?_ _
          go_wp2_with fail
          go_roundg (t.length - (k + 1))
          case measure => exact Nat.lt_of_lt_of_le hm9 hg
          case rel => exact ⟨k + 1, by omega, by omega, by go_num, BB.out.trans (hz.mono BB.out.size), (by rw [HN.out]; exact own_below OO.out hz)⟩
      · have hqb : decide (0 < gq) = false := decide_eq_false hq
        have HN := Lib.hid (show exL t m ((s : Int) - (nod t m).dl) (k + 1) = ls from by rw [HS.out, if_neg (fun e => hq (HI.2 e).1)])
        clear hq HI HS HT HUC
        go_wp2_with fail
        go_quiet (fail)
        go_wp2_with fail
        go_roundg (t.length - (k + 1))
        case measure => exact Nat.lt_of_lt_of_le hm9 hg
        case rel => exact ⟨k + 1, by omega, by omega, by go_num, below_drewN BB.out _, (by rw [HN.out]; exact own_below OO.out (below_drewN (Below.refl _ _) _))⟩
    · obtain rfl : k = t.length := by omega
      go_wp2
      go_ret
      exact ⟨_, rfl, own_leQ OO.out (BZZ.out.size), BW.out⟩

end Go.Proofs.Ytndhhofidkaomaa
