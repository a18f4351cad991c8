/- QuotaRemainingMatchesSpec: quota.Remaining returns what the reference returns, or the reference's fault; the argument is left as it was.
   Condition: as each theorem states; this text: QtRefRem, QtLawRem, QtRemProof. -/
import Derived.Test.YtndhhofidkaomaaQb11
import Derived.Test.YtndhhofidkaomaaQb10
import Derived.BigQuiet
import Derived.Test.YtndhhofidkaomaaQb9
import Derived.Test.YtndhhofidkaomaaRows
import Derived.Test.YtndhhofidkaomaaQb4
import Derived.Test.YtndhhofidkaomaaQb6
import Derived.ProofKit
import Derived.SizedLaws
import Derived.OpenShut
import Derived.ShutString
import Derived.ChangeMaps5

set_option linter.all false

/- The reference's Remaining at a file of a valid tree, by trying every size. Conditions: the tree's cells lie in memory as they read, its files' bytes too. -/

set_option linter.all false
namespace Go.Proofs.Ytndhhofidkaomaa
open Go.RowKit

theorem exFold_nil (G : Int) : ∀ (l : List (Nat × Int)) (s : List Int), l.foldl (exStep G) s = [] ↔ s = [] ∧ ∀ p ∈ l, ¬ p.2 < G
  | [], s => by simp
  | p :: l, s => by
    rw [List.foldl_cons, exFold_nil G l]
    have : exStep G s p = [] ↔ s = [] ∧ ¬ p.2 < G := by
      unfold exStep
      by_cases h : p.2 < G
      · rw [if_pos h]; simp [h]
      · rw [if_neg h]; simp [h]
    rw [this]
    simp only [List.mem_cons, forall_eq_or_imp]
    exact ⟨fun ⟨⟨h1, h2⟩, h3⟩ => ⟨h1, h2, h3⟩, fun ⟨h1, h2, h3⟩ => ⟨⟨h1, h2⟩, h3⟩⟩
theorem exL_nil {t : Tr} {m : Nat} {G : Int} {k : Nat} : exL t m G k = [] ↔ ∀ p ∈ qL t m k, ¬ p.2 < G := by
  unfold exL; rw [exFold_nil]; simp
theorem rem_nonneg {t : Tr} (hd : Head t) (p4 : Pass t 4) {m : Nat} : 0 ≤ remF t m t.length := by
  have h1 := Pass.ok1 hd (p4.mono (by omega))
  have hdl := (h1.fine m).dl
  refine (rem_fold _ _ _).2 ⟨by omega, fun p hp => ?_⟩
  obtain ⟨hi, ho, hr⟩ := qL_mem.1 hp
  have hc : codeQ t p.1 = 0 := p4 3 (by omega) p.1 hi
  unfold qOn at ho
  simp at ho
  unfold codeQ at hc
  split at hc
  · cases hc
  · rename_i h
    rw [hr]
    unfold room usgN
    have := ho.1
    omega

set_option maxRecDepth 100000 in
set_option maxHeartbeats 6400000 in
theorem refRem_any (a : Option Addr) (c : Nat) (t : Tr) (m : Nat) (w : World) (hd : Head t) (p4 : Pass t 4) (hm : m < t.length) (hk : (nod t m).k = 2) (h : DNods w w.heap.size a c t) :
    Calls Try.prog 17 #[.agg #[.slice a t.length c], .int .i64 (m : Int)] w fun e w' => e = .returned (.int .i64 (remF t m t.length)) ∧ Below w.heap.size w w' := by
  have h1 := Pass.ok1 hd (p4.mono (by omega))
  have H := Lib.hid h
  have h40 := h1.le
  have hdl := (h1.fine m).dl
  obtain ⟨r, hr⟩ := Int.eq_ofNat_of_zero_le (rem_nonneg hd p4 (m := m))
  have hrl := remF_le (t := t) (file := m) (k := t.length)
  have HS := Lib.hid (show ∀ j : Nat, j < r → exL t m ((j : Int) + 1) t.length = [] from fun j hj => exL_nil.2 fun p hp => by
    have := ((rem_fold (qL t m t.length) _ _).1 (Int.le_refl (remF t m t.length))).2 p hp
    rw [hr] at this
    omega)
  have HT := Lib.hid (show ¬ ((nod t m).dl + r < 200 ∧ exL t m ((r : Int) + 1) t.length = []) from fun ⟨h2, h3⟩ => by
    have h4 := exL_nil.1 h3
    have e : (r : Int) + 1 ≤ remF t m t.length := (rem_fold _ _ _).2 ⟨by omega, fun p hp => by have := h4 p hp; omega⟩
    omega)
  have C1 := Lib.hid (fun (j : Nat) (hj : (nod t m).dl + j < 200) W (hb : Below w.heap.size w W) => (show Calls Try.prog 15 #[.agg #[.slice a t.length c], .int .i64 (m : Int), .int .i64 (((nod t m).dl : Int) + (j : Int) + 1)] W fun e w' => ∃ v, e = .returned v ∧ w'.ownsRow W.heap.size 3 1 v (exL t m ((j : Int) + 1) t.length).length (intL (exL t m ((j : Int) + 1) t.length)) ∧ Below W.heap.size W w' from by
    have := refExc_any a c t m ((nod t m).dl + j + 1) W hd p4 hm hk (by omega) (h.up hb)
    have e1 : (((nod t m).dl + j + 1 : Nat) : Int) = ((nod t m).dl : Int) + (j : Int) + 1 := by omega
    rw [e1, show ((nod t m).dl : Int) + (j : Int) + 1 - (nod t m).dl = (j : Int) + 1 by omega] at this
    exact this))
  have T0 := Lib.hid (One.new w (.slice a t.length c) 24)
  have B0 := Lib.hid ((Below.refl w.heap.size w).alloc (Nat.le_refl _) (.cells #[.slice a t.length c] 24))
  have mlz : (m : Int) < (t.length : Int) := by omega
  have mz : (0 : Int) ≤ (m : Int) := Int.natCast_nonneg _
  rw [hr]
  rw [hr] at hrl
  clear h hd p4 hk h1 hr
  obtain ⟨b, o, ve, vd, va, vx, rfl, hb, hc, hs⟩ := H.out.nd.one hm
  obtain ⟨da, dc, rfl, _⟩ := hs.dl
  have h3 := hc.c3
  clear hc hs
  generalize (nod t m).dl = gd at *
  go_enter Try.func17, Try.ntmps17
  go_wp2_with fail
  go_loopg [5] r (fun gg s5 wr => ∃ j : Nat, j ≤ r ∧ r - j ≤ gg ∧ s5 = .int .i64 j ∧ Aside (Below w.heap.size w wr) ∧ Aside (One wr w.heap.size (.slice (some ⟨b, o, none⟩) t.length c)))
  case atStart => exact ⟨0, by omega, by omega, rfl, B0.out, T0.out⟩
  case round =>
    obtain ⟨j, hj, hg, rfl, BB, TT⟩ := hrel
    clear B0 T0
    have t0 := TT.out.c0
    have tl := TT.out.lt
    have hbl : b < wr.heap.size := Nat.lt_of_lt_of_le hb BB.out.size
    have g3 := (BB.out.cell (p := ⟨b, o + m * 8 + 3, none⟩) hb).trans h3
    have hwr1 : IntKind.i64.wrap ((gd : Int) + (j : Int)) = (gd : Int) + (j : Int) := IntWalk.i64_in _ (by omega)
    have hwr2 : IntKind.i64.wrap ((gd : Int) + (j : Int) + 1) = (gd : Int) + (j : Int) + 1 := IntWalk.i64_in _ (by omega)
    by_cases hq : gd + j < 200
    · have hqb : decide ((gd : Int) + (j : Int) < 200) = true := decide_eq_true (by omega)
      have HC := Lib.hid (C1.out j hq)
      have z0 := (Below.refl wr.heap.size wr).drew
      by_cases hjr : j < r
      · have HC := HC
        rw [HS.out j hjr] at HC
        simp only [List.length_nil] at HC
        go_wp2_with fail
        refine wp_region_held_drew (S := (fun y => y.cell? ⟨w.heap.size, 0, none⟩ = some (.slice (some ⟨b, o, none⟩) t.length c) ∧ y.cell? ⟨b, o + m * 8 + 3, none⟩ = some (.slice da gd dc))) (by kernel_rfl) ⟨t0, g3⟩ (fun hHeld => ?_)
        refine wpAnyH_take (i := 0) (oi := { dst := some 6, op := Op.fieldAddr 24 (Operand.tmp 2) 0, type := 0, pos := "more.go:113", after := #[], guard := none }) (v := ?vp0) rfl (by kernel_rfl) (by kernel_rfl) (by kernel_rfl) (fun _ _ _ h => h) (Or.inl ⟨by rfl, ?yp0⟩) (by assumption) ?rp0
        case yp0 =>
          intro wz hSw
          try dsimp only at hSw
          go_simp
          try with_reducible rfl
        try simp only [Act.put, List.setIfInBounds_toArray, List.set_cons_zero, List.set_cons_succ]
        refine wpAnyH_take (i := 1) (oi := { dst := some 7, op := Op.load 22 (Operand.tmp 6), type := 22, pos := "more.go:113", after := #[{ on := 0, ground := Ground.data }], guard := none }) (v := ?vp1) rfl (by kernel_rfl) (by kernel_rfl) (by kernel_rfl) (fun _ _ _ h => h) (Or.inl ⟨by rfl, ?yp1⟩) (by assumption) ?rp1
        case yp1 =>
          intro wz hSw
          try dsimp only at hSw
          go_simp
          try with_reducible rfl
        try simp only [Act.put, List.setIfInBounds_toArray, List.set_cons_zero, List.set_cons_succ]
        refine wpAnyH_take (i := 2) (oi := { dst := some 8, op := Op.move (Operand.tmp 1), type := 3, pos := "more.go:113", after := #[], guard := none }) (v := ?vp2) rfl (by kernel_rfl) (by kernel_rfl) (by kernel_rfl) (fun _ _ _ h => h) (Or.inl ⟨by rfl, ?yp2⟩) (by assumption) ?rp2
        case yp2 =>
          intro wz hSw
          try dsimp only at hSw
          go_simp
          try with_reducible rfl
        try simp only [Act.put, List.setIfInBounds_toArray, List.set_cons_zero, List.set_cons_succ]
        refine wpAnyH_take (i := 3) (oi := { dst := some 9, op := Op.indexAddr 22 (Operand.tmp 7) (Operand.tmp 8), type := 0, pos := "more.go:113", after := #[{ on := 1, ground := Ground.data }, { on := 2, ground := Ground.data }], guard := none }) (v := ?vp3) rfl (by kernel_rfl) (by kernel_rfl) (by kernel_rfl) (fun _ _ _ h => h) (Or.inl ⟨by rfl, ?yp3⟩) (by assumption) ?rp3
        case yp3 =>
          intro wz hSw
          try dsimp only at hSw
          go_simp
          try with_reducible rfl
        try simp only [Act.put, List.setIfInBounds_toArray, List.set_cons_zero, List.set_cons_succ]
        refine wpAnyH_take (i := 4) (oi := { dst := some 10, op := Op.fieldAddr 47 (Operand.tmp 9) 3, type := 0, pos := "more.go:113", after := #[{ on := 3, ground := Ground.data }], guard := none }) (v := ?vp4) rfl (by kernel_rfl) (by kernel_rfl) (by kernel_rfl) (fun _ _ _ h => h) (Or.inl ⟨by rfl, ?yp4⟩) (by assumption) ?rp4
        case yp4 =>
          intro wz hSw
          try dsimp only at hSw
          go_simp
          try with_reducible rfl
        try simp only [Act.put, List.setIfInBounds_toArray, List.set_cons_zero, List.set_cons_succ]
        refine wpAnyH_take (i := 5) (oi := { dst := some 11, op := Op.load 43 (Operand.tmp 10), type := 43, pos := "more.go:113", after := #[{ on := 4, ground := Ground.data }], guard := none }) (v := ?vp5) rfl (by kernel_rfl) (by kernel_rfl) (by kernel_rfl) (fun _ _ _ h => h) (Or.inl ⟨by rfl, ?yp5⟩) (by assumption) ?rp5
        case yp5 =>
          intro wz hSw
          try dsimp only at hSw
          go_simp
          try with_reducible rfl
        try simp only [Act.put, List.setIfInBounds_toArray, List.set_cons_zero, List.set_cons_succ]
        refine wpAnyH_take (i := 6) (oi := { dst := some 12, op := Op.call { callee := Callee.builtin Builtin.len, args := #[Operand.tmp 11], argTypes := #[43] }, type := 3, pos := "more.go:113", after := #[{ on := 5, ground := Ground.data }], guard := none }) (v := ?vp6) rfl (by kernel_rfl) (by kernel_rfl) (by kernel_rfl) (fun _ _ _ h => h) (Or.inl ⟨by rfl, ?yp6⟩) (by assumption) ?rp6
        case yp6 =>
          intro wz hSw
          try dsimp only at hSw
          go_simp
          try with_reducible rfl
        try simp only [Act.put, List.setIfInBounds_toArray, List.set_cons_zero, List.set_cons_succ]
        refine wpAnyH_take (i := 7) (oi := { dst := some 13, op := Op.move (Operand.tmp 5), type := 3, pos := "more.go:113", after := #[], guard := none }) (v := ?vp7) rfl (by kernel_rfl) (by kernel_rfl) (by kernel_rfl) (fun _ _ _ h => h) (Or.inl ⟨by rfl, ?yp7⟩) (by assumption) ?rp7
        case yp7 =>
          intro wz hSw
          try dsimp only at hSw
          go_simp
          try with_reducible rfl
        try simp only [Act.put, List.setIfInBounds_toArray, List.set_cons_zero, List.set_cons_succ]
        refine wpAnyH_take (i := 8) (oi := { dst := some 14, op := Op.binOp BinOp.add 3 (Operand.tmp 12) (Operand.tmp 13) 3, type := 3, pos := "more.go:113", after := #[{ on := 6, ground := Ground.data }, { on := 7, ground := Ground.data }], guard := none }) (v := ?vp8) rfl (by kernel_rfl) (by kernel_rfl) (by kernel_rfl) (fun _ _ _ h => h) (Or.inl ⟨by rfl, ?yp8⟩) (by assumption) ?rp8
        case yp8 =>
          intro wz hSw
          try dsimp only at hSw
          go_simp
          try with_reducible rfl
        try simp only [Act.put, List.setIfInBounds_toArray, List.set_cons_zero, List.set_cons_succ]
        refine wpAnyH_take (i := 9) (oi := { dst := some 15, op := Op.binOp BinOp.lss 3 (Operand.tmp 14) (Operand.const (Value.int IntKind.i64 200)) 3, type := 4, pos := "more.go:113", after := #[{ on := 8, ground := Ground.data }], guard := none }) (v := ?vp9) rfl (by kernel_rfl) (by kernel_rfl) (by kernel_rfl) (fun _ _ _ h => h) (Or.inl ⟨by rfl, ?yp9⟩) (by assumption) ?rp9
        case yp9 =>
          intro wz hSw
          try dsimp only at hSw
          go_simp
          try with_reducible rfl
        try simp only [Act.put, List.setIfInBounds_toArray, List.set_cons_zero, List.set_cons_succ]
        refine wpAnyH_take (i := 10) (oi := { dst := some 16, op := Op.move (Operand.tmp 15), type := 4, pos := "more.go:113", after := #[{ on := 9, ground := Ground.data }], guard := none }) (v := ?vp10) rfl (by kernel_rfl) (by kernel_rfl) (by kernel_rfl) (fun _ _ _ h => h) (Or.inl ⟨by rfl, ?yp10⟩) (by assumption) ?rp10
        case yp10 =>
          intro wz hSw
          try dsimp only at hSw
          go_simp
          try with_reducible rfl
        try simp only [Act.put, List.setIfInBounds_toArray, List.set_cons_zero, List.set_cons_succ]
        refine wpAnyH_take (i := 11) (oi := { dst := some 17, op := Op.load 24 (Operand.tmp 2), type := 24, pos := "more.go:113", after := #[{ on := 10, ground := Ground.guard }], guard := some (10, true) }) (v := ?vp11) rfl (by kernel_rfl) (by kernel_rfl) (by kernel_rfl) (fun _ _ _ h => h) (Or.inl ⟨by rfl, ?yp11⟩) (by assumption) ?rp11
        case yp11 =>
          intro wz hSw
          try dsimp only at hSw
          go_simp
          try with_reducible rfl
        try simp only [Act.put, List.setIfInBounds_toArray, List.set_cons_zero, List.set_cons_succ]
        refine wpAnyH_take (i := 12) (oi := { dst := some 18, op := Op.move (Operand.tmp 1), type := 3, pos := "more.go:113", after := #[{ on := 10, ground := Ground.guard }], guard := some (10, true) }) (v := ?vp12) rfl (by kernel_rfl) (by kernel_rfl) (by kernel_rfl) (fun _ _ _ h => h) (Or.inl ⟨by rfl, ?yp12⟩) (by assumption) ?rp12
        case yp12 =>
          intro wz hSw
          try dsimp only at hSw
          go_simp
          try with_reducible rfl
        try simp only [Act.put, List.setIfInBounds_toArray, List.set_cons_zero, List.set_cons_succ]
        refine wpAnyH_take (i := 13) (oi := { dst := some 19, op := Op.fieldAddr 24 (Operand.tmp 2) 0, type := 0, pos := "more.go:113", after := #[{ on := 10, ground := Ground.guard }], guard := some (10, true) }) (v := ?vp13) rfl (by kernel_rfl) (by kernel_rfl) (by kernel_rfl) (fun _ _ _ h => h) (Or.inl ⟨by rfl, ?yp13⟩) (by assumption) ?rp13
        case yp13 =>
          intro wz hSw
          try dsimp only at hSw
          go_simp
          try with_reducible rfl
        try simp only [Act.put, List.setIfInBounds_toArray, List.set_cons_zero, List.set_cons_succ]
        refine wpAnyH_take (i := 14) (oi := { dst := some 20, op := Op.load 22 (Operand.tmp 19), type := 22, pos := "more.go:113", after := #[{ on := 13, ground := Ground.data }, { on := 10, ground := Ground.guard }], guard := some (10, true) }) (v := ?vp14) rfl (by kernel_rfl) (by kernel_rfl) (by kernel_rfl) (fun _ _ _ h => h) (Or.inl ⟨by rfl, ?yp14⟩) (by assumption) ?rp14
        case yp14 =>
          intro wz hSw
          try dsimp only at hSw
          go_simp
          try with_reducible rfl
        try simp only [Act.put, List.setIfInBounds_toArray, List.set_cons_zero, List.set_cons_succ]
        refine wpAnyH_take (i := 15) (oi := { dst := some 21, op := Op.move (Operand.tmp 1), type := 3, pos := "more.go:113", after := #[{ on := 10, ground := Ground.guard }], guard := some (10, true) }) (v := ?vp15) rfl (by kernel_rfl) (by kernel_rfl) (by kernel_rfl) (fun _ _ _ h => h) (Or.inl ⟨by rfl, ?yp15⟩) (by assumption) ?rp15
        case yp15 =>
          intro wz hSw
          try dsimp only at hSw
          go_simp
          try with_reducible rfl
        try simp only [Act.put, List.setIfInBounds_toArray, List.set_cons_zero, List.set_cons_succ]
        refine wpAnyH_take (i := 16) (oi := { dst := some 22, op := Op.indexAddr 22 (Operand.tmp 20) (Operand.tmp 21), type := 0, pos := "more.go:113", after := #[{ on := 14, ground := Ground.data }, { on := 15, ground := Ground.data }, { on := 10, ground := Ground.guard }], guard := some (10, true) }) (v := ?vp16) rfl (by kernel_rfl) (by kernel_rfl) (by kernel_rfl) (fun _ _ _ h => h) (Or.inl ⟨by rfl, ?yp16⟩) (by assumption) ?rp16
        case yp16 =>
          intro wz hSw
          try dsimp only at hSw
          go_simp
          try with_reducible rfl
        try simp only [Act.put, List.setIfInBounds_toArray, List.set_cons_zero, List.set_cons_succ]
        refine wpAnyH_take (i := 17) (oi := { dst := some 23, op := Op.fieldAddr 47 (Operand.tmp 22) 3, type := 0, pos := "more.go:113", after := #[{ on := 16, ground := Ground.data }, { on := 10, ground := Ground.guard }], guard := some (10, true) }) (v := ?vp17) rfl (by kernel_rfl) (by kernel_rfl) (by kernel_rfl) (fun _ _ _ h => h) (Or.inl ⟨by rfl, ?yp17⟩) (by assumption) ?rp17
        case yp17 =>
          intro wz hSw
          try dsimp only at hSw
          go_simp
          try with_reducible rfl
        try simp only [Act.put, List.setIfInBounds_toArray, List.set_cons_zero, List.set_cons_succ]
        refine wpAnyH_take (i := 18) (oi := { dst := some 24, op := Op.load 43 (Operand.tmp 23), type := 43, pos := "more.go:113", after := #[{ on := 17, ground := Ground.data }, { on := 10, ground := Ground.guard }], guard := some (10, true) }) (v := ?vp18) rfl (by kernel_rfl) (by kernel_rfl) (by kernel_rfl) (fun _ _ _ h => h) (Or.inl ⟨by rfl, ?yp18⟩) (by assumption) ?rp18
        case yp18 =>
          intro wz hSw
          try dsimp only at hSw
          go_simp
          try with_reducible rfl
        try simp only [Act.put, List.setIfInBounds_toArray, List.set_cons_zero, List.set_cons_succ]
        refine wpAnyH_take (i := 19) (oi := { dst := some 25, op := Op.call { callee := Callee.builtin Builtin.len, args := #[Operand.tmp 24], argTypes := #[43] }, type := 3, pos := "more.go:113", after := #[{ on := 18, ground := Ground.data }, { on := 10, ground := Ground.guard }], guard := some (10, true) }) (v := ?vp19) rfl (by kernel_rfl) (by kernel_rfl) (by kernel_rfl) (fun _ _ _ h => h) (Or.inl ⟨by rfl, ?yp19⟩) (by assumption) ?rp19
        case yp19 =>
          intro wz hSw
          try dsimp only at hSw
          go_simp
          try with_reducible rfl
        try simp only [Act.put, List.setIfInBounds_toArray, List.set_cons_zero, List.set_cons_succ]
        refine wpAnyH_take (i := 20) (oi := { dst := some 26, op := Op.move (Operand.tmp 5), type := 3, pos := "more.go:113", after := #[{ on := 10, ground := Ground.guard }], guard := some (10, true) }) (v := ?vp20) rfl (by kernel_rfl) (by kernel_rfl) (by kernel_rfl) (fun _ _ _ h => h) (Or.inl ⟨by rfl, ?yp20⟩) (by assumption) ?rp20
        case yp20 =>
          intro wz hSw
          try dsimp only at hSw
          go_simp
          try with_reducible rfl
        try simp only [Act.put, List.setIfInBounds_toArray, List.set_cons_zero, List.set_cons_succ]
        refine wpAnyH_take (i := 21) (oi := { dst := some 27, op := Op.binOp BinOp.add 3 (Operand.tmp 25) (Operand.tmp 26) 3, type := 3, pos := "more.go:113", after := #[{ on := 19, ground := Ground.data }, { on := 20, ground := Ground.data }, { on := 10, ground := Ground.guard }], guard := some (10, true) }) (v := ?vp21) rfl (by kernel_rfl) (by kernel_rfl) (by kernel_rfl) (fun _ _ _ h => h) (Or.inl ⟨by rfl, ?yp21⟩) (by assumption) ?rp21
        case yp21 =>
          intro wz hSw
          try dsimp only at hSw
          go_simp
          try with_reducible rfl
        try simp only [Act.put, List.setIfInBounds_toArray, List.set_cons_zero, List.set_cons_succ]
        refine wpAnyH_take (i := 22) (oi := { dst := some 28, op := Op.binOp BinOp.add 3 (Operand.tmp 27) (Operand.const (Value.int IntKind.i64 1)) 3, type := 3, pos := "more.go:113", after := #[{ on := 21, ground := Ground.data }, { on := 10, ground := Ground.guard }], guard := some (10, true) }) (v := ?vp22) rfl (by kernel_rfl) (by kernel_rfl) (by kernel_rfl) (fun _ _ _ h => h) (Or.inl ⟨by rfl, ?yp22⟩) (by assumption) ?rp22
        case yp22 =>
          intro wz hSw
          try dsimp only at hSw
          go_simp
          try with_reducible rfl
        try simp only [Act.put, List.setIfInBounds_toArray, List.set_cons_zero, List.set_cons_succ]
        refine wpAnyH_ready (rs := [23]) (by kernel_rfl) (by simp) ?_
        refine AllReadyH.cons (o := { dst := some 29, op := Op.call { callee := Callee.value (Operand.func 15), args := #[Operand.tmp 17, Operand.tmp 18, Operand.tmp 28], argTypes := #[24, 3, 3] }, type := 25, pos := "more.go:113", after := #[{ on := 11, ground := Ground.data }, { on := 12, ground := Ground.data }, { on := 22, ground := Ground.data }, { on := 10, ground := Ground.chain }, { on := 10, ground := Ground.guard }], guard := some (10, true) }) rfl (fun K9 hK9 => ?_) AllReadyH.nil
        go_simp
        refine (HC.out _ (BB.out.trans (z0.mono BB.out.size))).mono ?_
        rintro e y1 ⟨v, rfl, ho, hb1⟩
        obtain ⟨ya, yc, rfl⟩ := own_formQ ho
        have z1 := z0.trans hb1
        clear ho
        try go_wp2_with fail
        refine hK9.out _ _ ⟨(z1.cell (p := ⟨w.heap.size, 0, none⟩) tl).trans t0, (z1.cell (p := ⟨b, o + m * 8 + 3, none⟩) hbl).trans g3⟩ (fun hHeld2 => ?_)
        clear hK9 K9 hHeld
        try simp only [Act.put, List.setIfInBounds_toArray, List.set_cons_zero, List.set_cons_succ]
        refine wpAnyH_take (i := 24) (oi := { dst := some 30, op := Op.call { callee := Callee.builtin Builtin.len, args := #[Operand.tmp 29], argTypes := #[25] }, type := 3, pos := "more.go:113", after := #[{ on := 23, ground := Ground.data }, { on := 10, ground := Ground.guard }], guard := some (10, true) }) (v := ?vp24) rfl (by kernel_rfl) (by kernel_rfl) (by kernel_rfl) (fun _ _ _ h => h) (Or.inl ⟨by rfl, ?yp24⟩) (by assumption) ?rp24
        case yp24 =>
          intro wz hSw
          try dsimp only at hSw
          go_simp
          try with_reducible rfl
        try simp only [Act.put, List.setIfInBounds_toArray, List.set_cons_zero, List.set_cons_succ]
        refine wpAnyH_take (i := 25) (oi := { dst := some 31, op := Op.binOp BinOp.eql 3 (Operand.tmp 30) (Operand.const (Value.int IntKind.i64 0)) 3, type := 4, pos := "more.go:113", after := #[{ on := 24, ground := Ground.data }, { on := 10, ground := Ground.guard }], guard := some (10, true) }) (v := ?vp25) rfl (by kernel_rfl) (by kernel_rfl) (by kernel_rfl) (fun _ _ _ h => h) (Or.inl ⟨by rfl, ?yp25⟩) (by assumption) ?rp25
        case yp25 =>
          intro wz hSw
          try dsimp only at hSw
          go_simp
          try with_reducible rfl
        try simp only [Act.put, List.setIfInBounds_toArray, List.set_cons_zero, List.set_cons_succ]
        refine wpAnyH_take (i := 26) (oi := { dst := some 32, op := Op.pick (Operand.tmp 16) (Operand.tmp 31) (Operand.const (Value.bool false)), type := 4, pos := "more.go:113", after := #[{ on := 10, ground := Ground.data }, { on := 25, ground := Ground.data }], guard := none }) (v := ?vp26) rfl (by kernel_rfl) (by kernel_rfl) (by kernel_rfl) (fun _ _ _ h => h) (Or.inl ⟨by rfl, ?yp26⟩) (by assumption) ?rp26
        case yp26 =>
          intro wz hSw
          try dsimp only at hSw
          go_simp
          try with_reducible rfl
        try simp only [Act.put, List.setIfInBounds_toArray, List.set_cons_zero, List.set_cons_succ]
        refine wpAnyH_done (by kernel_rfl) ?_ _
        have BF := Lib.hid (BB.out.trans (z1.mono BB.out.size))
        have TF := Lib.hid (TT.out.below z1 tl)
        go_wp2_with fail
        go_roundg (r - (j + 1))
        case measure => omega
        case rel => exact ⟨j + 1, by omega, by omega, by go_num, BF.out, TF.out⟩
      · obtain rfl : j = r := by omega
        have hne : exL t m ((j : Int) + 1) t.length ≠ [] := fun h => HT.out ⟨hq, h⟩
        have hn0 : (exL t m ((j : Int) + 1) t.length).length ≠ 0 := fun h => hne (List.eq_nil_of_length_eq_zero h)
        clear HS HT hne
        generalize exL t m ((j : Int) + 1) t.length = L at *
        generalize hLn : L.length = nL at *
        have hnb : ((nL : Int) == 0) = false := by simp; omega
        go_wp2_with fail
        refine wp_region_held_drew (S := (fun y => y.cell? ⟨w.heap.size, 0, none⟩ = some (.slice (some ⟨b, o, none⟩) t.length c) ∧ y.cell? ⟨b, o + m * 8 + 3, none⟩ = some (.slice da gd dc))) (by kernel_rfl) ⟨t0, g3⟩ (fun hHeld => ?_)
        refine wpAnyH_take (i := 0) (oi := { dst := some 6, op := Op.fieldAddr 24 (Operand.tmp 2) 0, type := 0, pos := "more.go:113", after := #[], guard := none }) (v := ?vq0) rfl (by kernel_rfl) (by kernel_rfl) (by kernel_rfl) (fun _ _ _ h => h) (Or.inl ⟨by rfl, ?yq0⟩) (by assumption) ?rq0
        case yq0 =>
          intro wz hSw
          try dsimp only at hSw
          go_simp
          try with_reducible rfl
        try simp only [Act.put, List.setIfInBounds_toArray, List.set_cons_zero, List.set_cons_succ]
        refine wpAnyH_take (i := 1) (oi := { dst := some 7, op := Op.load 22 (Operand.tmp 6), type := 22, pos := "more.go:113", after := #[{ on := 0, ground := Ground.data }], guard := none }) (v := ?vq1) rfl (by kernel_rfl) (by kernel_rfl) (by kernel_rfl) (fun _ _ _ h => h) (Or.inl ⟨by rfl, ?yq1⟩) (by assumption) ?rq1
        case yq1 =>
          intro wz hSw
          try dsimp only at hSw
          go_simp
          try with_reducible rfl
        try simp only [Act.put, List.setIfInBounds_toArray, List.set_cons_zero, List.set_cons_succ]
        refine wpAnyH_take (i := 2) (oi := { dst := some 8, op := Op.move (Operand.tmp 1), type := 3, pos := "more.go:113", after := #[], guard := none }) (v := ?vq2) rfl (by kernel_rfl) (by kernel_rfl) (by kernel_rfl) (fun _ _ _ h => h) (Or.inl ⟨by rfl, ?yq2⟩) (by assumption) ?rq2
        case yq2 =>
          intro wz hSw
          try dsimp only at hSw
          go_simp
          try with_reducible rfl
        try simp only [Act.put, List.setIfInBounds_toArray, List.set_cons_zero, List.set_cons_succ]
        refine wpAnyH_take (i := 3) (oi := { dst := some 9, op := Op.indexAddr 22 (Operand.tmp 7) (Operand.tmp 8), type := 0, pos := "more.go:113", after := #[{ on := 1, ground := Ground.data }, { on := 2, ground := Ground.data }], guard := none }) (v := ?vq3) rfl (by kernel_rfl) (by kernel_rfl) (by kernel_rfl) (fun _ _ _ h => h) (Or.inl ⟨by rfl, ?yq3⟩) (by assumption) ?rq3
        case yq3 =>
          intro wz hSw
          try dsimp only at hSw
          go_simp
          try with_reducible rfl
        try simp only [Act.put, List.setIfInBounds_toArray, List.set_cons_zero, List.set_cons_succ]
        refine wpAnyH_take (i := 4) (oi := { dst := some 10, op := Op.fieldAddr 47 (Operand.tmp 9) 3, type := 0, pos := "more.go:113", after := #[{ on := 3, ground := Ground.data }], guard := none }) (v := ?vq4) rfl (by kernel_rfl) (by kernel_rfl) (by kernel_rfl) (fun _ _ _ h => h) (Or.inl ⟨by rfl, ?yq4⟩) (by assumption) ?rq4
        case yq4 =>
          intro wz hSw
          try dsimp only at hSw
          go_simp
          try with_reducible rfl
        try simp only [Act.put, List.setIfInBounds_toArray, List.set_cons_zero, List.set_cons_succ]
        refine wpAnyH_take (i := 5) (oi := { dst := some 11, op := Op.load 43 (Operand.tmp 10), type := 43, pos := "more.go:113", after := #[{ on := 4, ground := Ground.data }], guard := none }) (v := ?vq5) rfl (by kernel_rfl) (by kernel_rfl) (by kernel_rfl) (fun _ _ _ h => h) (Or.inl ⟨by rfl, ?yq5⟩) (by assumption) ?rq5
        case yq5 =>
          intro wz hSw
          try dsimp only at hSw
          go_simp
          try with_reducible rfl
        try simp only [Act.put, List.setIfInBounds_toArray, List.set_cons_zero, List.set_cons_succ]
        refine wpAnyH_take (i := 6) (oi := { dst := some 12, op := Op.call { callee := Callee.builtin Builtin.len, args := #[Operand.tmp 11], argTypes := #[43] }, type := 3, pos := "more.go:113", after := #[{ on := 5, ground := Ground.data }], guard := none }) (v := ?vq6) rfl (by kernel_rfl) (by kernel_rfl) (by kernel_rfl) (fun _ _ _ h => h) (Or.inl ⟨by rfl, ?yq6⟩) (by assumption) ?rq6
        case yq6 =>
          intro wz hSw
          try dsimp only at hSw
          go_simp
          try with_reducible rfl
        try simp only [Act.put, List.setIfInBounds_toArray, List.set_cons_zero, List.set_cons_succ]
        refine wpAnyH_take (i := 7) (oi := { dst := some 13, op := Op.move (Operand.tmp 5), type := 3, pos := "more.go:113", after := #[], guard := none }) (v := ?vq7) rfl (by kernel_rfl) (by kernel_rfl) (by kernel_rfl) (fun _ _ _ h => h) (Or.inl ⟨by rfl, ?yq7⟩) (by assumption) ?rq7
        case yq7 =>
          intro wz hSw
          try dsimp only at hSw
          go_simp
          try with_reducible rfl
        try simp only [Act.put, List.setIfInBounds_toArray, List.set_cons_zero, List.set_cons_succ]
        refine wpAnyH_take (i := 8) (oi := { dst := some 14, op := Op.binOp BinOp.add 3 (Operand.tmp 12) (Operand.tmp 13) 3, type := 3, pos := "more.go:113", after := #[{ on := 6, ground := Ground.data }, { on := 7, ground := Ground.data }], guard := none }) (v := ?vq8) rfl (by kernel_rfl) (by kernel_rfl) (by kernel_rfl) (fun _ _ _ h => h) (Or.inl ⟨by rfl, ?yq8⟩) (by assumption) ?rq8
        case yq8 =>
          intro wz hSw
          try dsimp only at hSw
          go_simp
          try with_reducible rfl
        try simp only [Act.put, List.setIfInBounds_toArray, List.set_cons_zero, List.set_cons_succ]
        refine wpAnyH_take (i := 9) (oi := { dst := some 15, op := Op.binOp BinOp.lss 3 (Operand.tmp 14) (Operand.const (Value.int IntKind.i64 200)) 3, type := 4, pos := "more.go:113", after := #[{ on := 8, ground := Ground.data }], guard := none }) (v := ?vq9) rfl (by kernel_rfl) (by kernel_rfl) (by kernel_rfl) (fun _ _ _ h => h) (Or.inl ⟨by rfl, ?yq9⟩) (by assumption) ?rq9
        case yq9 =>
          intro wz hSw
          try dsimp only at hSw
          go_simp
          try with_reducible rfl
        try simp only [Act.put, List.setIfInBounds_toArray, List.set_cons_zero, List.set_cons_succ]
        refine wpAnyH_take (i := 10) (oi := { dst := some 16, op := Op.move (Operand.tmp 15), type := 4, pos := "more.go:113", after := #[{ on := 9, ground := Ground.data }], guard := none }) (v := ?vq10) rfl (by kernel_rfl) (by kernel_rfl) (by kernel_rfl) (fun _ _ _ h => h) (Or.inl ⟨by rfl, ?yq10⟩) (by assumption) ?rq10
        case yq10 =>
          intro wz hSw
          try dsimp only at hSw
          go_simp
          try with_reducible rfl
        try simp only [Act.put, List.setIfInBounds_toArray, List.set_cons_zero, List.set_cons_succ]
        refine wpAnyH_take (i := 11) (oi := { dst := some 17, op := Op.load 24 (Operand.tmp 2), type := 24, pos := "more.go:113", after := #[{ on := 10, ground := Ground.guard }], guard := some (10, true) }) (v := ?vq11) rfl (by kernel_rfl) (by kernel_rfl) (by kernel_rfl) (fun _ _ _ h => h) (Or.inl ⟨by rfl, ?yq11⟩) (by assumption) ?rq11
        case yq11 =>
          intro wz hSw
          try dsimp only at hSw
          go_simp
          try with_reducible rfl
        try simp only [Act.put, List.setIfInBounds_toArray, List.set_cons_zero, List.set_cons_succ]
        refine wpAnyH_take (i := 12) (oi := { dst := some 18, op := Op.move (Operand.tmp 1), type := 3, pos := "more.go:113", after := #[{ on := 10, ground := Ground.guard }], guard := some (10, true) }) (v := ?vq12) rfl (by kernel_rfl) (by kernel_rfl) (by kernel_rfl) (fun _ _ _ h => h) (Or.inl ⟨by rfl, ?yq12⟩) (by assumption) ?rq12
        case yq12 =>
          intro wz hSw
          try dsimp only at hSw
          go_simp
          try with_reducible rfl
        try simp only [Act.put, List.setIfInBounds_toArray, List.set_cons_zero, List.set_cons_succ]
        refine wpAnyH_take (i := 13) (oi := { dst := some 19, op := Op.fieldAddr 24 (Operand.tmp 2) 0, type := 0, pos := "more.go:113", after := #[{ on := 10, ground := Ground.guard }], guard := some (10, true) }) (v := ?vq13) rfl (by kernel_rfl) (by kernel_rfl) (by kernel_rfl) (fun _ _ _ h => h) (Or.inl ⟨by rfl, ?yq13⟩) (by assumption) ?rq13
        case yq13 =>
          intro wz hSw
          try dsimp only at hSw
          go_simp
          try with_reducible rfl
        try simp only [Act.put, List.setIfInBounds_toArray, List.set_cons_zero, List.set_cons_succ]
        refine wpAnyH_take (i := 14) (oi := { dst := some 20, op := Op.load 22 (Operand.tmp 19), type := 22, pos := "more.go:113", after := #[{ on := 13, ground := Ground.data }, { on := 10, ground := Ground.guard }], guard := some (10, true) }) (v := ?vq14) rfl (by kernel_rfl) (by kernel_rfl) (by kernel_rfl) (fun _ _ _ h => h) (Or.inl ⟨by rfl, ?yq14⟩) (by assumption) ?rq14
        case yq14 =>
          intro wz hSw
          try dsimp only at hSw
          go_simp
          try with_reducible rfl
        try simp only [Act.put, List.setIfInBounds_toArray, List.set_cons_zero, List.set_cons_succ]
        refine wpAnyH_take (i := 15) (oi := { dst := some 21, op := Op.move (Operand.tmp 1), type := 3, pos := "more.go:113", after := #[{ on := 10, ground := Ground.guard }], guard := some (10, true) }) (v := ?vq15) rfl (by kernel_rfl) (by kernel_rfl) (by kernel_rfl) (fun _ _ _ h => h) (Or.inl ⟨by rfl, ?yq15⟩) (by assumption) ?rq15
        case yq15 =>
          intro wz hSw
          try dsimp only at hSw
          go_simp
          try with_reducible rfl
        try simp only [Act.put, List.setIfInBounds_toArray, List.set_cons_zero, List.set_cons_succ]
        refine wpAnyH_take (i := 16) (oi := { dst := some 22, op := Op.indexAddr 22 (Operand.tmp 20) (Operand.tmp 21), type := 0, pos := "more.go:113", after := #[{ on := 14, ground := Ground.data }, { on := 15, ground := Ground.data }, { on := 10, ground := Ground.guard }], guard := some (10, true) }) (v := ?vq16) rfl (by kernel_rfl) (by kernel_rfl) (by kernel_rfl) (fun _ _ _ h => h) (Or.inl ⟨by rfl, ?yq16⟩) (by assumption) ?rq16
        case yq16 =>
          intro wz hSw
          try dsimp only at hSw
          go_simp
          try with_reducible rfl
        try simp only [Act.put, List.setIfInBounds_toArray, List.set_cons_zero, List.set_cons_succ]
        refine wpAnyH_take (i := 17) (oi := { dst := some 23, op := Op.fieldAddr 47 (Operand.tmp 22) 3, type := 0, pos := "more.go:113", after := #[{ on := 16, ground := Ground.data }, { on := 10, ground := Ground.guard }], guard := some (10, true) }) (v := ?vq17) rfl (by kernel_rfl) (by kernel_rfl) (by kernel_rfl) (fun _ _ _ h => h) (Or.inl ⟨by rfl, ?yq17⟩) (by assumption) ?rq17
        case yq17 =>
          intro wz hSw
          try dsimp only at hSw
          go_simp
          try with_reducible rfl
        try simp only [Act.put, List.setIfInBounds_toArray, List.set_cons_zero, List.set_cons_succ]
        refine wpAnyH_take (i := 18) (oi := { dst := some 24, op := Op.load 43 (Operand.tmp 23), type := 43, pos := "more.go:113", after := #[{ on := 17, ground := Ground.data }, { on := 10, ground := Ground.guard }], guard := some (10, true) }) (v := ?vq18) rfl (by kernel_rfl) (by kernel_rfl) (by kernel_rfl) (fun _ _ _ h => h) (Or.inl ⟨by rfl, ?yq18⟩) (by assumption) ?rq18
        case yq18 =>
          intro wz hSw
          try dsimp only at hSw
          go_simp
          try with_reducible rfl
        try simp only [Act.put, List.setIfInBounds_toArray, List.set_cons_zero, List.set_cons_succ]
        refine wpAnyH_take (i := 19) (oi := { dst := some 25, op := Op.call { callee := Callee.builtin Builtin.len, args := #[Operand.tmp 24], argTypes := #[43] }, type := 3, pos := "more.go:113", after := #[{ on := 18, ground := Ground.data }, { on := 10, ground := Ground.guard }], guard := some (10, true) }) (v := ?vq19) rfl (by kernel_rfl) (by kernel_rfl) (by kernel_rfl) (fun _ _ _ h => h) (Or.inl ⟨by rfl, ?yq19⟩) (by assumption) ?rq19
        case yq19 =>
          intro wz hSw
          try dsimp only at hSw
          go_simp
          try with_reducible rfl
        try simp only [Act.put, List.setIfInBounds_toArray, List.set_cons_zero, List.set_cons_succ]
        refine wpAnyH_take (i := 20) (oi := { dst := some 26, op := Op.move (Operand.tmp 5), type := 3, pos := "more.go:113", after := #[{ on := 10, ground := Ground.guard }], guard := some (10, true) }) (v := ?vq20) rfl (by kernel_rfl) (by kernel_rfl) (by kernel_rfl) (fun _ _ _ h => h) (Or.inl ⟨by rfl, ?yq20⟩) (by assumption) ?rq20
        case yq20 =>
          intro wz hSw
          try dsimp only at hSw
          go_simp
          try with_reducible rfl
        try simp only [Act.put, List.setIfInBounds_toArray, List.set_cons_zero, List.set_cons_succ]
        refine wpAnyH_take (i := 21) (oi := { dst := some 27, op := Op.binOp BinOp.add 3 (Operand.tmp 25) (Operand.tmp 26) 3, type := 3, pos := "more.go:113", after := #[{ on := 19, ground := Ground.data }, { on := 20, ground := Ground.data }, { on := 10, ground := Ground.guard }], guard := some (10, true) }) (v := ?vq21) rfl (by kernel_rfl) (by kernel_rfl) (by kernel_rfl) (fun _ _ _ h => h) (Or.inl ⟨by rfl, ?yq21⟩) (by assumption) ?rq21
        case yq21 =>
          intro wz hSw
          try dsimp only at hSw
          go_simp
          try with_reducible rfl
        try simp only [Act.put, List.setIfInBounds_toArray, List.set_cons_zero, List.set_cons_succ]
        refine wpAnyH_take (i := 22) (oi := { dst := some 28, op := Op.binOp BinOp.add 3 (Operand.tmp 27) (Operand.const (Value.int IntKind.i64 1)) 3, type := 3, pos := "more.go:113", after := #[{ on := 21, ground := Ground.data }, { on := 10, ground := Ground.guard }], guard := some (10, true) }) (v := ?vq22) rfl (by kernel_rfl) (by kernel_rfl) (by kernel_rfl) (fun _ _ _ h => h) (Or.inl ⟨by rfl, ?yq22⟩) (by assumption) ?rq22
        case yq22 =>
          intro wz hSw
          try dsimp only at hSw
          go_simp
          try with_reducible rfl
        try simp only [Act.put, List.setIfInBounds_toArray, List.set_cons_zero, List.set_cons_succ]
        refine wpAnyH_ready (rs := [23]) (by kernel_rfl) (by simp) ?_
        refine AllReadyH.cons (o := { dst := some 29, op := Op.call { callee := Callee.value (Operand.func 15), args := #[Operand.tmp 17, Operand.tmp 18, Operand.tmp 28], argTypes := #[24, 3, 3] }, type := 25, pos := "more.go:113", after := #[{ on := 11, ground := Ground.data }, { on := 12, ground := Ground.data }, { on := 22, ground := Ground.data }, { on := 10, ground := Ground.chain }, { on := 10, ground := Ground.guard }], guard := some (10, true) }) rfl (fun K9 hK9 => ?_) AllReadyH.nil
        go_simp
        refine (HC.out _ (BB.out.trans (z0.mono BB.out.size))).mono ?_
        rintro e y1 ⟨v, rfl, ho, hb1⟩
        obtain ⟨ya, yc, rfl⟩ := own_formQ ho
        have z1 := z0.trans hb1
        clear ho
        try go_wp2_with fail
        refine hK9.out _ _ ⟨(z1.cell (p := ⟨w.heap.size, 0, none⟩) tl).trans t0, (z1.cell (p := ⟨b, o + m * 8 + 3, none⟩) hbl).trans g3⟩ (fun hHeld2 => ?_)
        clear hK9 K9 hHeld
        try simp only [Act.put, List.setIfInBounds_toArray, List.set_cons_zero, List.set_cons_succ]
        refine wpAnyH_take (i := 24) (oi := { dst := some 30, op := Op.call { callee := Callee.builtin Builtin.len, args := #[Operand.tmp 29], argTypes := #[25] }, type := 3, pos := "more.go:113", after := #[{ on := 23, ground := Ground.data }, { on := 10, ground := Ground.guard }], guard := some (10, true) }) (v := ?vq24) rfl (by kernel_rfl) (by kernel_rfl) (by kernel_rfl) (fun _ _ _ h => h) (Or.inl ⟨by rfl, ?yq24⟩) (by assumption) ?rq24
        case yq24 =>
          intro wz hSw
          try dsimp only at hSw
          go_simp
          try with_reducible rfl
        try simp only [Act.put, List.setIfInBounds_toArray, List.set_cons_zero, List.set_cons_succ]
        refine wpAnyH_take (i := 25) (oi := { dst := some 31, op := Op.binOp BinOp.eql 3 (Operand.tmp 30) (Operand.const (Value.int IntKind.i64 0)) 3, type := 4, pos := "more.go:113", after := #[{ on := 24, ground := Ground.data }, { on := 10, ground := Ground.guard }], guard := some (10, true) }) (v := ?vq25) rfl (by kernel_rfl) (by kernel_rfl) (by kernel_rfl) (fun _ _ _ h => h) (Or.inl ⟨by rfl, ?yq25⟩) (by assumption) ?rq25
        case yq25 =>
          intro wz hSw
          try dsimp only at hSw
          go_simp
          try with_reducible rfl
        try simp only [Act.put, List.setIfInBounds_toArray, List.set_cons_zero, List.set_cons_succ]
        refine wpAnyH_take (i := 26) (oi := { dst := some 32, op := Op.pick (Operand.tmp 16) (Operand.tmp 31) (Operand.const (Value.bool false)), type := 4, pos := "more.go:113", after := #[{ on := 10, ground := Ground.data }, { on := 25, ground := Ground.data }], guard := none }) (v := ?vq26) rfl (by kernel_rfl) (by kernel_rfl) (by kernel_rfl) (fun _ _ _ h => h) (Or.inl ⟨by rfl, ?yq26⟩) (by assumption) ?rq26
        case yq26 =>
          intro wz hSw
          try dsimp only at hSw
          go_simp
          try with_reducible rfl
        try simp only [Act.put, List.setIfInBounds_toArray, List.set_cons_zero, List.set_cons_succ]
        refine wpAnyH_done (by kernel_rfl) ?_ _
        have BF := Lib.hid (BB.out.trans (z1.mono BB.out.size))
        go_wp2_with fail
        go_ret
        exact ⟨rfl, BF.out⟩
    · have hqb : decide ((gd : Int) + (j : Int) < 200) = false := decide_eq_false (by omega)
      have hjr : j = r := by
        rcases Nat.lt_or_ge j r with h | h
        · omega
        · omega
      subst hjr
      go_wp2_with fail
      go_quiet (fail)
      go_wp2_with fail
      go_ret
      exact ⟨rfl, below_drewN BB.out _⟩

end Go.Proofs.Ytndhhofidkaomaa

/- The law QuotaRemainingMatchesSpec returns true at every tree and file number. Conditions: the tree's cells lie in memory as they read, its files' bytes too. -/

set_option linter.all false
namespace Go.Proofs.Ytndhhofidkaomaa
open Go.RowKit

theorem file_sample : fileF sampleT 2 0 = (0, 0) := by decide +kernel
theorem rem_sample : remF sampleT 2 3 = 197 := by decide +kernel
theorem rem_sample_any (b : Nat) (w : World) (h : Nods w w.heap.size (some ⟨b, 0, none⟩) 3 sampleT) :
    Calls Try.prog 16 #[.agg #[.slice (some ⟨b, 0, none⟩) sampleT.length 3], .int .i64 2] w fun e w' => e = .returned (.tuple #[.int .i64 197, .agg #[.int .i64 0, .int .i64 0]]) ∧ Below w.heap.size w w' := by
  refine (remaining_any (some ⟨b, 0, none⟩) 3 sampleT 2 w h).mono ?_
  rintro e w' (⟨h1, _⟩ | ⟨_, h2, h4⟩)
  · exact absurd (by rw [file_sample]) h1
  · refine ⟨?_, h4⟩
    rw [h2]
    have e : remF sampleT (Int.toNat 2) sampleT.length = 197 := rem_sample
    rw [e]
    rfl
/-- The number that Remaining gives: 0 where there is a fault. -/
def remV (t : Tr) (n : Int) : Int := if (fileF t n 0).1 = 0 then remF t n.toNat t.length else 0
theorem remV_any (a : Option Addr) (c : Nat) (t : Tr) (n : Int) (w : World) (h : Nods w w.heap.size a c t) :
    Calls Try.prog 16 #[.agg #[.slice a t.length c], .int .i64 n] w fun e w' => e = .returned (.tuple #[.int .i64 (remV t n), .agg #[.int .i64 (fileF t n 0).1, .int .i64 (fileF t n 0).2]]) ∧ Below w.heap.size w w' := by
  refine (remaining_any a c t n w h).mono ?_
  unfold remV
  rintro e w' (⟨h1, h2, h3⟩ | ⟨h1, h2, h3⟩)
  · rw [if_neg h1]; exact ⟨h2, h3⟩
  · rw [if_pos h1, (fileF_zero h1).2.2.2.2]; exact ⟨h2, h3⟩

set_option maxRecDepth 100000 in
set_option maxHeartbeats 6400000 in
theorem lawRem_any (a : Option Addr) (c : Nat) (t : Tr) (n : Int) (w : World) (h : DNods w w.heap.size a c t) :
    Calls Try.prog 5 #[.agg #[.slice a t.length c], .int .i64 n] w fun e w' => e = .returned (.bool true) ∧ Below w.heap.size w w' := by
  have C1 := Lib.hid (fun W (hb : Below w.heap.size w W) => remV_any a c t n W (h.nd.up hb))
  have C2 := Lib.hid (fun W (hb : Below w.heap.size w W) => refFile_any a c t n 0 W (h.nd.up hb))
  have T0 := Lib.hid (One.new w (.slice a t.length c) 24)
  have B0 := Lib.hid ((Below.refl w.heap.size w).alloc (Nat.le_refl _) (.cells #[.slice a t.length c] 24))
  have HV := Lib.hid (fun (h0 : (fileF t n 0).1 = 0) => (show (fileF t n 0).2 = 0 ∧ ∀ W, Below w.heap.size w W → Calls Try.prog 17 #[.agg #[.slice a t.length c], .int .i64 n] W fun e w' => e = .returned (.int .i64 (remV t n)) ∧ Below W.heap.size W w' from by
    obtain ⟨hv, ⟨m, rfl, hm, hk⟩, _, _, hz⟩ := fileF_zero h0
    obtain ⟨hd, p4⟩ := valT_ok hv
    unfold remV
    rw [if_pos h0, Int.toNat_natCast]
    exact ⟨by rw [hz], fun W hb => refRem_any a c t m W hd p4 hm hk (h.up hb)⟩))
  have HZ := Lib.hid (fun (h0 : (fileF t n 0).1 ≠ 0) => (show remV t n = 0 from if_neg h0))
  unfold faultV at C2
  clear h
  generalize remV t n = kv at *
  generalize (fileF t n 0).1 = q at *
  generalize (fileF t n 0).2 = r at *
  go_enter Try.func5, Try.ntmps5
  go_wp2_with fail
  refine (C1.out _ B0.out).mono ?_
  rintro e W1 ⟨rfl, b1⟩
  have T1 := Lib.hid ((T0.out.below b1 T0.out.lt).alloc (.cells #[.int .i64 q, .int .i64 r] 27))
  have F1 := Lib.hid (FBox.new W1 q r 27)
  have B1 := Lib.hid ((B0.out.trans (b1.mono B0.out.size)).alloc (Nat.le_trans B0.out.size b1.size) (.cells #[.int .i64 q, .int .i64 r] 27))
  have tc := (T0.out.below b1 T0.out.lt).c0
  have tl := (T0.out.below b1 T0.out.lt).lt
  clear b1
  go_wp2_with fail
  refine (C2.out _ B1.out).mono ?_
  rintro e W2 ⟨rfl, b2⟩
  have T2 := Lib.hid ((T1.out.below b2 T1.out.lt).alloc (.cells #[.int .i64 q, .int .i64 r] 27))
  have F2 := Lib.hid ((F1.out.below b2 F1.out.lt).alloc (.cells #[.int .i64 q, .int .i64 r] 27))
  have X2 := Lib.hid (FBox.new W2 q r 27)
  have B2 := Lib.hid ((B1.out.trans (b2.mono B1.out.size)).alloc (Nat.le_trans B1.out.size b2.size) (.cells #[.int .i64 q, .int .i64 r] 27))
  clear b2 tc tl T0 T1 F1 B0 B1 C2 C1
  go_wp2_with fail
  refine (sample_any _).mono ?_
  rintro e W3 ⟨sb, rfl, hn3, b3⟩
  have T3 := Lib.hid (T2.out.below b3 T2.out.lt)
  have F3 := Lib.hid (F2.out.below b3 F2.out.lt)
  have X3 := Lib.hid (X2.out.below b3 X2.out.lt)
  have B3 := Lib.hid (B2.out.trans (b3.mono B2.out.size))
  have HE := Lib.hid (rem_sample_any sb W3 hn3)
  clear b3 hn3 T2 F2 X2 B2
  go_wp2_with fail
  refine HE.out.mono ?_
  rintro e W4 ⟨rfl, b4⟩
  have T4 := Lib.hid (T3.out.below b4 T3.out.lt)
  have F4 := Lib.hid (F3.out.below b4 F3.out.lt)
  have X4 := Lib.hid (X3.out.below b4 X3.out.lt)
  have B4 := Lib.hid (B3.out.trans (b4.mono B3.out.size))
  have B5 := Lib.hid (B4.out.alloc B4.out.size (.cells #[.int .i64 0, .int .i64 0] 27))
  clear b4 HE T3 F3 X3 B3
  obtain ⟨l8, t0, t1⟩ := T4.out
  obtain ⟨fl, f0, f1, fz0, fz1⟩ := F4.out
  obtain ⟨xl, x0, x1, xz0, xz1⟩ := X4.out
  have T5 := Lib.hid (T4.out.alloc (.cells #[.int .i64 0, .int .i64 0] 27))
  have u0 := T5.out.c0
  have l9 : w.heap.size < W4.heap.size + 1 := by omega
  have fl9 : W1.heap.size < W4.heap.size + 1 := by omega
  have xl9 : W2.heap.size < W4.heap.size + 1 := by omega
  by_cases hq : q = 0
  · obtain ⟨hr, hC⟩ := HV.out hq
    subst hq hr
    have HC := Lib.hid (hC _ B5.out)
    clear HV hC HZ
    go_wp2_with fail
    refine HC.out.mono ?_
    rintro e W6 ⟨rfl, b6⟩
    have B6 := Lib.hid (B5.out.trans (b6.mono B5.out.size))
    clear b6
    go_wp2
    go_ret
    exact ⟨rfl, B6.out⟩
  · have hq1 : (q != 0) = true := by simpa using hq
    have hk := HZ.out hq
    subst hk
    clear hq HV HZ
    go_wp2
    go_ret
    exact ⟨rfl, B5.out⟩

end Go.Proofs.Ytndhhofidkaomaa

/- QuotaRemainingMatchesSpec: for every tree and file number, quota.Remaining returns the fault that the reference's ValidateFile returns and the number 0, or without a fault the number that the reference's Remaining finds by trying every size; the argument is left as it was.
   No condition: every such input, nil slices too. -/

set_option linter.all false
namespace Go.Proofs.Ytndhhofidkaomaa.rowQuotaRemainingMatchesSpec
open Go.ChangeShapes Go.WideShapes Go.ChangeAt Go.ChangeMaps Go.RowKit

theorem own : ownKnob Try.prog.godebug = none := by kernel_rfl
theorem laidOut : laidOutB Try.prog = true := by kernel_rfl

set_option maxRecDepth 100000 in
theorem lifted (os : Os) (started : os.Started) (H : Type) (enc : TypeId × Value → H) :
    ReturnsInHanded {} Try.checked os 5 .any (Rows.quotaRemainingMatchesSpecSpec.pre6 enc Try.prog Try.f5 Rows.quotaRemainingMatchesSpecRow.domain false) (Rows.quotaRemainingMatchesSpecSpec.post enc Try.prog Try.f5 false true false false) := by
  refine returnsInHanded_of_change_sized (C := Try.checked) own started (by kernel_rfl) Try.func5
    (ChangeSpec.witness6 (enc := enc) (C := Try.checked) false ⟨#[], #[.agg #[.slice none 0 0], .int .i64 0], []⟩ 8 (by kernel_rfl) (by kernel_rfl) (by kernel_rfl) (by kernel_rfl)) ?_
  intro W base args ds gs before hval0 hW _ hsz0 _
  have hsz : (DataW.weightsEach Try.prog (Try.f5.params.toList ++ Rows.quotaRemainingMatchesSpecSpec.plain.varTypes Try.prog) (ds ++ gs)).all (· ≤ reachBytes) = true := hsz0
  clear hsz0
  have hval : ∀ (j : Nat) t v, Try.f5.params[j]? = some t → args[j]? = some v → Value.okWide Try.prog W .any base t v := hval0
  have hW' := hW
  obtain ⟨p, q, hA0, hV, rfl, _, _⟩ := hW
  have hA : DataW.TrodAll enc Try.prog W 0 (fun _ => true) true Try.f5.params.toList args.toList ds p := hA0
  rw [Try.params5] at hA hval hsz
  clear hA0 hval0
  obtain ⟨v0, t0, d0, e0, p0, q0, ar0, rfl, rfl, h0, r0⟩ := trodAll_cons hA
  obtain ⟨v1, t1, d1, e1, p1, q1, ar1, rfl, rfl, h1, r1⟩ := trodAll_cons r0
  obtain ⟨rfl, rfl, rfl⟩ := trodAll_nil r1
  subst ar1
  obtain rfl : args = #[v0, v1] := by cases args; simp_all
  clear ar0
  obtain ⟨rfl, rfl⟩ := trodVars_none hV
  obtain ⟨w0, rfl, _⟩ := okWide_struct tree_under (hval 0 24 v0 rfl rfl)
  have k0 := h0
  obtain ⟨fuel0, f0⟩ := h0
  have hw0 : Held Try.prog 24 d0 := fun n hn => by
    have := List.all_eq_true.1 hsz _ (DataW.weights_mem_each (j := 0) (t := 24) rfl rfl n hn)
    simpa using this
  obtain ⟨a0, c0, u0, hxz0, hS0⟩ := dtree_of f0 hw0
  obtain rfl : w0 = #[.slice a0 u0.length c0] := by cases w0; simp [Value.cells] at hxz0; simp [hxz0]
  clear hxz0
  obtain ⟨n1, rfl, rfl, rfl, w1⟩ := open_int Try.underlying3 (hval 1 3 v1 rfl rfl) h1
  try simp only [List.append_nil] at hW'
  have hlt : ∀ x ∈ p0 ++ ([] ++ ([])), x.block < W.heap.size := fun x hx => hW'.lt x (by first | exact hx | simpa using hx)
  have fin : ∀ W', Below W.heap.size W W' → Rows.quotaRemainingMatchesSpecSpec.post enc Try.checked.prog Try.f5 false true false false W #[.agg #[.slice a0 u0.length c0], .int .i64 n1] (.bool true) W' := by
    intro W' hnx
    refine ⟨_, _, _, [] ++ [], p0 ++ ([] ++ ([])), [], hW', ?_, ?_, rfl, hnx.frame _, fun h => by cases h⟩
    · exact trodAll_mk1 (shut_bool Try.underlying4 true)
    · exact trodAll_cons_mk (Below.trod laidOut (by kernel_rfl) (of_decide_eq_true (by kernel_rfl)) k0 hnx (fun x hx => hlt x (by simp [hx]))) (trodAll_cons_mk (shut_int Try.underlying3 w1) (trodAll_mk0))
  refine (lawRem_any a0 c0 u0 n1 W hS0.dnods).mono fun e W' ⟨he, hnx⟩ => ?_
  subst he
  exact ⟨_, rfl, fin W' hnx⟩

theorem holds : Rows.QuotaRemainingMatchesSpecSaid :=
  OpenClaim.holds_of_wide 5 Try.f5 rfl rfl rfl rfl rfl rfl rfl ⟨rfl, rfl, rfl, rfl, rfl⟩ rfl rfl rfl rfl rfl (by kernel_rfl) Try.func5 (by kernel_rfl)
    (of_decide_eq_true (by kernel_rfl)) (by unfold Func.isWrapper; first | (rw [if_pos (by decide +kernel)]; kernel_rfl) | (rw [if_neg (by decide +kernel)]; exact ⟨rfl, rfl⟩))
    (fun os started H enc _ => lifted os started H enc)

end Go.Proofs.Ytndhhofidkaomaa.rowQuotaRemainingMatchesSpec
