/- The law QuotaByOwnerMatchesSpec returns true at every tree. Conditions: the tree's cells lie in memory as they read. -/
import Derived.Test.YtndhhofidkaomaaQtByOwner
import Derived.Test.YtndhhofidkaomaaFsVTree
import Derived.Test.YtndhhofidkaomaaIntsSame
import Derived.BigRegion

set_option linter.all false
namespace Go.Proofs.Ytndhhofidkaomaa
open Go.RowKit

set_option maxRecDepth 100000 in
set_option maxHeartbeats 3200000 in
theorem lawBy_any (a : Option Addr) (c : Nat) (t : Tr) (w : World) (h : Nods w w.heap.size a c t) :
    Calls Try.prog 6 #[.agg #[.slice a t.length c]] w fun e w' => e = .returned (.bool true) ∧ Below w.heap.size w w' := by
  have C2 := Lib.hid (fun W (hb : Below w.heap.size w W) => vtree_any a c t W (h.up hb))
  have C1 := Lib.hid (fun W (hb : Below w.heap.size w W) => byOwner_any a c t W (h.up hb))
  have T0 := Lib.hid (One.new w (.slice a t.length c) 24)
  have B0 := Lib.hid ((Below.refl w.heap.size w).alloc (Nat.le_refl _) (.cells #[.slice a t.length c] 24))
  unfold faultV at C2
  unfold ByPost faultV at C1
  by_cases hq : (valT t).1 = 0
  · have hz := valT_zero hq
    obtain ⟨hd, p4⟩ := valT_ok hq
    have H1 := Lib.hid (Pass.ok1 hd (p4.mono (by omega)))
    have H := Lib.hid h
    have h40 := H1.out.le
    have hmk : ∀ w : World, (Instr.makeSlice 25 (.int .i64 8) (.int .i64 8)).run Try.prog w = .ok (.slice (some ⟨w.heap.size, 0, none⟩) 8 8) (w.alloc (.cells (madeCells #[.int .i64 0] 8) 3)) := fun w => make_ints 8 (by omega) w
    rw [hz] at C1 C2
    clear hd p4 hq hz h
    go_enter Try.func6, Try.ntmps6
    go_wp2_with fail
    refine (C1.out _ B0.out).mono ?_
    rintro e W1 (⟨hx, _⟩ | ⟨_, R, hR, rfl, hrow, b1⟩)
    · exact absurd rfl hx
    have T1 := Lib.hid ((T0.out.below b1 T0.out.lt).alloc (.cells #[.int .i64 0, .int .i64 0] 27))
    have B1 := Lib.hid ((B0.out.trans (b1.mono B0.out.size)).alloc (Nat.le_trans B0.out.size b1.size) (.cells #[.int .i64 0, .int .i64 0] 27))
    have F1 := Lib.hid (FBox.new W1 0 0 27)
    have R1 := Lib.hid (hrow.alloc (.cells #[.int .i64 0, .int .i64 0] 27))
    have tc := (T0.out.below b1 T0.out.lt).c0
    have tl := (T0.out.below b1 T0.out.lt).lt
    have hRl := hrow.lt
    clear b1 hrow
    go_wp2_with fail
    refine (C2.out _ B1.out).mono ?_
    rintro e W2 ⟨rfl, b2⟩
    have T2 := Lib.hid ((T1.out.below b2 T1.out.lt).alloc (.cells #[.int .i64 0, .int .i64 0] 27))
    have B2 := Lib.hid ((B1.out.trans (b2.mono B1.out.size)).alloc (Nat.le_trans B1.out.size b2.size) (.cells #[.int .i64 0, .int .i64 0] 27))
    have R2 := Lib.hid ((R1.out.below b2 R1.out.lt).alloc (.cells #[.int .i64 0, .int .i64 0] 27))
    have F2 := Lib.hid ((F1.out.below b2 F1.out.lt).alloc (.cells #[.int .i64 0, .int .i64 0] 27))
    have G2 := Lib.hid (FBox.new W2 0 0 27)
    have T2b := Lib.hid (T1.out.below b2 T1.out.lt)
    have hW12 : W1.heap.size < W2.heap.size := by have := b2.size; simp at this; omega
    have hwW1 : w.heap.size < W1.heap.size := by simpa using tl
    clear b2 tc tl C1 C2
    have t0 := T2b.out.c0
    have tl := T2b.out.lt
    go_wp2_with fail
    have I0 := Lib.hid (show BOwn w ((W2.alloc (.cells #[.int .i64 0, .int .i64 0] 27)).alloc (.cells (madeCells #[.int .i64 0] 8) 3)) t a c w.heap.size (W2.heap.size + 1) 0 from
      ⟨B2.out.alloc B2.out.size _, T2.out.alloc _, ((row_new (W2.alloc _) 8 (.int .i64 0) _).at_ (by simp)).ext (fun j _ => by rw [ownTo_zero]; rfl)⟩)
    have R3 := Lib.hid (R2.out.alloc (.cells (madeCells #[.int .i64 0] 8) 3))
    have F3 := Lib.hid (F2.out.alloc (.cells (madeCells #[.int .i64 0] 8) 3))
    have G3 := Lib.hid (G2.out.alloc (.cells (madeCells #[.int .i64 0] 8) 3))
    generalize hR2 : W2.heap.size + 1 = Q at *
    generalize hW3 : (W2.alloc (.cells #[.int .i64 0, .int .i64 0] 27)).alloc (.cells (madeCells #[.int .i64 0] 8) 3) = W3 at *
    clear t0 tl T2 B2 R2 F2 G2 T2b T0 B0 T1 B1 F1 R1 hW3
    go_loopg [7] t.length (fun gg s7 wr => ∃ k : Nat, k ≤ t.length ∧ t.length - k ≤ gg ∧ s7 = .int .i64 k ∧ Aside (BOwn w wr t a c w.heap.size Q k) ∧ Aside (Row wr R 8 (fun u => .int .i64 (ownTo t t.length u : Nat))) ∧ Aside (FBox wr W1.heap.size 0 0) ∧ Aside (FBox wr W2.heap.size 0 0))
    case atStart => exact ⟨0, by omega, by omega, rfl, I0.out, R3.out, F3.out, G3.out⟩
    case round =>
      obtain ⟨k, hk, hg, rfl, I, RR, FF, GG⟩ := hrel
      clear I0 R3 F3 G3
      obtain ⟨w9, rfl⟩ : ∃ w9 : World, w9 = wr := ⟨_, rfl⟩
      have t0 := I.out.tb.c0
      have tl := I.out.tb.lt
      by_cases hlt : k < t.length
      · have hltz : (k : Int) < (t.length : Int) := by omega
        have hi0 : (0 : Int) ≤ (k : Int) := Int.natCast_nonneg _
        have hm9 : t.length - (k + 1) < t.length - k := Nat.sub_lt_sub_left hlt (Nat.lt_succ_self k)
        obtain ⟨b, o, ve, vd, va, vx, rfl, hb, hc, hs⟩ := (H.out.below I.out.b).one hlt
        obtain ⟨da, dc, rfl, _⟩ := hs.dl
        have h1 := hc.c1
        have h3 := hc.c3
        obtain ⟨m, hm, hm8⟩ := H1.out.own hlt
        have hdl := (H1.out.fine k).dl
        have hol := ownTo_le H1.out m k
        have HM := Lib.hid hm
        have HA := Lib.hid (fun (X : World) (hX : BOwn w X t (some ⟨b, o, none⟩) c w.heap.size Q k) (u : Int) (hu : u = (ownTo t k m : Nat) + (nod t k).dl) => hX.add (by omega) (by omega) HM.out hm8 hu)
        rw [hm] at h1
        clear hc hs hm
        generalize (nod t k).dl = gd at *
        have rc := I.out.row.c m hm8
        have rz := I.out.row.fz m
        have rl := I.out.row.lt
        generalize hq : ownTo t k m = q at *
        have mz : (0 : Int) ≤ (m : Int) := Int.natCast_nonneg _
        have m8 : (m : Int) < 8 := by omega
        have hwr : IntKind.i64.wrap ((q : Int) + (gd : Int)) = (q : Int) + (gd : Int) := IntWalk.i64_in _ (by omega)
        have hRQ : R ≠ Q := by omega
        go_wp2_with fail
        go_region
        all_goals
          go_wp2
          go_roundg (t.length - (k + 1))
          case measure => exact Nat.lt_of_lt_of_le hm9 hg
          case rel => exact ⟨k + 1, by omega, by omega, by go_num, HA.out _ (I.out.step (Below.refl _ _).drew) _ rfl, (RR.out.below (Below.refl _ _).drew RR.out.lt).far hRQ _, (FF.out.below (Below.refl _ _).drew FF.out.lt).far (by simp; omega) _, (GG.out.below (Below.refl _ _).drew GG.out.lt).far (by simp; omega) _⟩
      · obtain rfl : k = t.length := by omega
        obtain ⟨fl, f0, f1, _, _⟩ := FF.out
        obtain ⟨gl, g0, g1, _, _⟩ := GG.out
        have HC := Lib.hid (intsSame_any R 0 8 Q 0 8 8 (fun u => (ownTo t t.length u : Nat)) w9 (by omega) (fun j hj => by rw [Nat.zero_add]; exact RR.out.c j hj) (fun j hj => by rw [Nat.zero_add]; exact I.out.row.c j hj))
        go_wp2_with fail
        refine HC.out.mono ?_
        rintro e y ⟨rfl, q, rfl⟩
        go_wp2
        go_ret
        exact ⟨rfl, below_drewN I.out.b _⟩
  · have hq1 : ((valT t).1 != 0) = true := by simpa using hq
    have HQ := Lib.hid hq
    have C1' := Lib.hid (fun W (hb : Below w.heap.size w W) => (C1.out W hb).mono fun e w' hh => (show e = .returned (.tuple #[.slice none 0 0, .agg #[.int .i64 (valT t).1, .int .i64 (valT t).2]]) ∧ Below W.heap.size W w' from by
      rcases hh with ⟨_, h1⟩ | ⟨h0, _⟩
      · exact h1
      · exact absurd h0 hq))
    clear h hq C1
    generalize (valT t).1 = q at *
    generalize (valT t).2 = r at *
    go_enter Try.func6, Try.ntmps6
    go_wp2_with fail
    refine (C1'.out _ B0.out).mono ?_
    rintro e W1 ⟨rfl, b1⟩
    have B1 := Lib.hid ((B0.out.trans (b1.mono B0.out.size)).alloc (Nat.le_trans B0.out.size b1.size) (.cells #[.int .i64 q, .int .i64 r] 27))
    have F1 := Lib.hid (FBox.new W1 q r 27)
    have tc := (T0.out.below b1 T0.out.lt).c0
    have tl := (T0.out.below b1 T0.out.lt).lt
    clear b1
    go_wp2_with fail
    refine (C2.out _ B1.out).mono ?_
    rintro e W2 ⟨rfl, b2⟩
    have B2 := Lib.hid ((B1.out.trans (b2.mono B1.out.size)).alloc (Nat.le_trans B1.out.size b2.size) (.cells #[.int .i64 q, .int .i64 r] 27))
    have F2 := Lib.hid (F1.out.below b2 F1.out.lt)
    clear b2 tc tl C1' C2
    have f0 := F2.out.c0
    have f1 := F2.out.c1
    have fl := F2.out.lt
    go_wp2
    go_ret
    exact ⟨rfl, B2.out⟩

end Go.Proofs.Ytndhhofidkaomaa
