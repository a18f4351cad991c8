/- The law QuotaUsageBounds returns true at every tree. Conditions: the tree's cells lie in memory as they read. -/
import Derived.Test.YtndhhofidkaomaaQtByOwner
import Derived.Test.YtndhhofidkaomaaQtSums
import Derived.Test.YtndhhofidkaomaaFsSample
import Derived.Test.YtndhhofidkaomaaIntsSame
import Derived.BigQuiet

set_option linter.all false
namespace Go.Proofs.Ytndhhofidkaomaa
open Go.RowKit

theorem FBox.drewNQ {w : World} {n : Nat} {a b : Int} (h : FBox w n a b) (k : Nat) : FBox (w.drewN k) n a b := by
  obtain ⟨h1, h2, h3, h4, h5⟩ := h; exact ⟨h1, h2, h3, h4, h5⟩
/-- The slice at ax (length m) is nil, where the tree has a fault, or else a row of n numbers. -/
def IntsV (q : Int) (n : Nat) (f : Nat → Nat) (w : World) (ax : Option Addr) (m : Nat) : Prop :=
  (q ≠ 0 ∧ ax = none ∧ m = 0) ∨ (q = 0 ∧ ∃ R, ax = some ⟨R, 0, none⟩ ∧ m = n ∧ Row w R n (fun j => .int .i64 (f j : Nat)))
theorem IntsV.below {q : Int} {n : Nat} {f : Nat → Nat} {w z : World} {ax : Option Addr} {m : Nat} (h : IntsV q n f w ax m) (hb : Below w.heap.size w z) : IntsV q n f z ax m := by
  rcases h with h | ⟨h0, R, h1, h2, h3⟩
  · exact .inl h
  · exact .inr ⟨h0, R, h1, h2, h3.below hb h3.lt⟩
theorem use_sample : ∀ j, j < 3 → usgN sampleT j = 3 := by decide +kernel
theorem use_sample_any (b : Nat) (w : World) (h : Nods w w.heap.size (some ⟨b, 0, none⟩) 3 sampleT) :
    Calls Try.prog 8 #[.agg #[.slice (some ⟨b, 0, none⟩) sampleT.length 3]] w fun e w' => ∃ R, e = .returned (.tuple #[.slice (some ⟨R, 0, none⟩) 3 3, .agg #[.int .i64 0, .int .i64 0]]) ∧ Row w' R 3 (fun _ => .int .i64 3) ∧ Below w.heap.size w w' := by
  refine (use_any (some ⟨b, 0, none⟩) 3 sampleT w h).mono ?_
  rintro e w' (⟨h1, _⟩ | ⟨_, R, _, h2, h3, h4⟩)
  · exact absurd (by rw [valT_sample]) h1
  · exact ⟨R, h2, h3.ext (fun j hj => by rw [use_sample j hj]; rfl), h4⟩
theorem byV_any (a : Option Addr) (c : Nat) (t : Tr) (w : World) (h : Nods w w.heap.size a c t) :
    Calls Try.prog 18 #[.agg #[.slice a t.length c]] w fun e w' => ∃ ax m, e = .returned (.tuple #[.slice ax m m, .agg #[.int .i64 (valT t).1, .int .i64 (valT t).2]]) ∧ IntsV (valT t).1 8 (fun u => ownTo t t.length u) w' ax m ∧ Below w.heap.size w w' := by
  refine (byOwner_any a c t w h).mono ?_
  rintro e w' (⟨h1, h2, h3⟩ | ⟨h1, R, _, h2, h3, h4⟩)
  · exact ⟨none, 0, h2, .inl ⟨h1, rfl, rfl⟩, h3⟩
  · exact ⟨_, 8, by rw [valT_zero h1]; exact h2, .inr ⟨h1, R, rfl, rfl, h3⟩, h4⟩
theorem useV_any (a : Option Addr) (c : Nat) (t : Tr) (w : World) (h : Nods w w.heap.size a c t) :
    Calls Try.prog 8 #[.agg #[.slice a t.length c]] w fun e w' => ∃ ax m, e = .returned (.tuple #[.slice ax m m, .agg #[.int .i64 (valT t).1, .int .i64 (valT t).2]]) ∧ IntsV (valT t).1 t.length (usgN t) w' ax m ∧ Below w.heap.size w w' := by
  refine (use_any a c t w h).mono ?_
  rintro e w' (⟨h1, h2, h3⟩ | ⟨h1, R, _, h2, h3, h4⟩)
  · exact ⟨none, 0, h2, .inl ⟨h1, rfl, rfl⟩, h3⟩
  · exact ⟨_, t.length, by rw [valT_zero h1]; exact h2, .inr ⟨h1, R, rfl, rfl, h3⟩, h4⟩

set_option maxRecDepth 100000 in
set_option maxHeartbeats 6400000 in
theorem lawBounds_any (a : Option Addr) (c : Nat) (t : Tr) (w : World) (h : Nods w w.heap.size a c t) :
    Calls Try.prog 7 #[.agg #[.slice a t.length c]] w fun e w' => e = .returned (.bool true) ∧ Below w.heap.size w w' := by
  have C1 := Lib.hid (fun W (hb : Below w.heap.size w W) => byV_any a c t W (h.up hb))
  have C2 := Lib.hid (fun W (hb : Below w.heap.size w W) => useV_any a c t W (h.up hb))
  have T0 := Lib.hid (One.new w (.slice a t.length c) 24)
  have B0 := Lib.hid ((Below.refl w.heap.size w).alloc (Nat.le_refl _) (.cells #[.slice a t.length c] 24))
  have H := Lib.hid h
  have HV := Lib.hid (fun (h0 : (valT t).1 = 0) => (show Head t ∧ Pass t 4 ∧ (valT t).2 = 0 from ⟨(valT_ok h0).1, (valT_ok h0).2, by rw [valT_zero h0]⟩))
  clear h
  generalize (valT t).1 = q at C1 C2 HV
  generalize (valT t).2 = r at C1 C2 HV
  go_enter Try.func7, Try.ntmps7
  go_wp2_with fail
  refine (C1.out _ B0.out).mono ?_
  rintro e W1 ⟨ax, m1, rfl, hv1, b1⟩
  have T1 := Lib.hid ((T0.out.below b1 T0.out.lt).alloc (.cells #[.int .i64 q, .int .i64 r] 27))
  have F1 := Lib.hid (FBox.new W1 q r 27)
  have B1 := Lib.hid ((B0.out.trans (b1.mono B0.out.size)).alloc (Nat.le_trans B0.out.size b1.size) (.cells #[.int .i64 q, .int .i64 r] 27))
  have V1 := Lib.hid (hv1.below ((Below.refl W1.heap.size W1).alloc (Nat.le_refl _) (.cells #[.int .i64 q, .int .i64 r] 27)))
  have tc := (T0.out.below b1 T0.out.lt).c0
  have tl := (T0.out.below b1 T0.out.lt).lt
  clear b1 hv1
  go_wp2_with fail
  refine (C2.out _ B1.out).mono ?_
  rintro e W2 ⟨au, m2, rfl, hv2, b2⟩
  have T2 := Lib.hid ((T1.out.below b2 T1.out.lt).alloc (.cells #[.int .i64 q, .int .i64 r] 27))
  have F2 := Lib.hid ((F1.out.below b2 F1.out.lt).alloc (.cells #[.int .i64 q, .int .i64 r] 27))
  have X2 := Lib.hid (FBox.new W2 q r 27)
  have B2 := Lib.hid ((B1.out.trans (b2.mono B1.out.size)).alloc (Nat.le_trans B1.out.size b2.size) (.cells #[.int .i64 q, .int .i64 r] 27))
  have V2 := Lib.hid (hv2.below ((Below.refl W2.heap.size W2).alloc (Nat.le_refl _) (.cells #[.int .i64 q, .int .i64 r] 27)))
  have V1b := Lib.hid ((V1.out.below b2).below ((Below.refl W2.heap.size W2).alloc (Nat.le_refl _) (.cells #[.int .i64 q, .int .i64 r] 27)))
  clear b2 hv2 tc tl T0 T1 F1 B0 B1 C2 C1 V1
  go_wp2_with fail
  refine (sample_any _).mono ?_
  rintro e W3 ⟨sb, rfl, hn3, b3⟩
  have T3 := Lib.hid (T2.out.below b3 T2.out.lt)
  have F3 := Lib.hid (F2.out.below b3 F2.out.lt)
  have X3 := Lib.hid (X2.out.below b3 X2.out.lt)
  have B3 := Lib.hid (B2.out.trans (b3.mono B2.out.size))
  have V13 := Lib.hid (V1b.out.below b3)
  have V23 := Lib.hid (V2.out.below b3)
  have HE := Lib.hid (use_sample_any sb W3 hn3)
  clear b3 hn3 T2 F2 X2 B2 V1b V2
  go_wp2_with fail
  refine HE.out.mono ?_
  rintro e W4 ⟨R, rfl, hrow, b4⟩
  have BN := Lib.hid (show Below W4.heap.size W4 ((W4.alloc (.cells #[.int .i64 0, .int .i64 0] 27)).alloc (.cells #[.int .i64 3, .int .i64 3, .int .i64 3] 3)) from ((Below.refl _ _).alloc (Nat.le_refl _) _).alloc (by first | omega | (simp; done) | (simp; omega)) _)
  have T4 := Lib.hid ((T3.out.below b4 T3.out.lt).below BN.out (by have := (T3.out.below b4 T3.out.lt).lt; exact this))
  have F4 := Lib.hid ((F3.out.below b4 F3.out.lt).below BN.out (by have := (F3.out.below b4 F3.out.lt).lt; exact this))
  have X4 := Lib.hid ((X3.out.below b4 X3.out.lt).below BN.out (by have := (X3.out.below b4 X3.out.lt).lt; exact this))
  have B4 := Lib.hid ((B3.out.trans (b4.mono B3.out.size)).trans (BN.out.mono (Nat.le_trans B3.out.size b4.size)))
  have V14 := Lib.hid ((V13.out.below b4).below BN.out)
  have V24 := Lib.hid ((V23.out.below b4).below BN.out)
  have HI := Lib.hid (intsSame_any R 0 3 (W4.heap.size + 1) 0 3 3 (fun _ => 3) ((W4.alloc (.cells #[.int .i64 0, .int .i64 0] 27)).alloc (.cells #[.int .i64 3, .int .i64 3, .int .i64 3] 3)) (by decide) (fun j hj => by rw [Nat.zero_add]; exact (BN.out.cell (p := ⟨R, j, none⟩) hrow.lt).trans (hrow.c j hj)) (fun j hj => by
    rw [Nat.zero_add]
    match j, hj with
    | 0, _ => exact new_cell (by simp) rfl
    | 1, _ => exact new_cell (by simp) rfl
    | 2, _ => exact new_cell (by simp) rfl))
  clear b4 hrow HE T3 F3 X3 B3 V13 V23
  go_wp2_with fail
  refine HI.out.mono ?_
  rintro e _ ⟨rfl, q5, rfl⟩
  have T5 := Lib.hid (T4.out.drewNQ q5)
  have F5 := Lib.hid (F4.out.drewNQ q5)
  have X5 := Lib.hid (X4.out.drewNQ q5)
  have B5 := Lib.hid (below_drewN B4.out q5)
  have V15 := Lib.hid (V14.out.below (below_drewN (Below.refl _ _) q5))
  have V25 := Lib.hid (V24.out.below (below_drewN (Below.refl _ _) q5))
  clear T4 F4 X4 B4 HI BN V14 V24
  generalize World.drewN ((W4.alloc (.cells #[.int .i64 0, .int .i64 0] 27)).alloc (.cells #[.int .i64 3, .int .i64 3, .int .i64 3] 3)) q5 = W5 at *
  obtain ⟨l8, t0, t1⟩ := T5.out
  obtain ⟨fl, f0, f1, fz0, fz1⟩ := F5.out
  obtain ⟨xl, x0, x1, xz0, xz1⟩ := X5.out
  have K1 := V15.out
  have K2 := V25.out
  unfold IntsV at K1 K2
  clear V15 V25
  by_cases hq : q = 0
  · obtain ⟨hd, p4, hr⟩ := HV.out hq
    rcases K1 with ⟨h0, _⟩ | ⟨_, R1, rfl, rfl, r1⟩
    · exact absurd hq h0
    rcases K2 with ⟨h0, _⟩ | ⟨_, R2, rfl, rfl, r2⟩
    · exact absurd hq h0
    subst hq hr
    have H1 := Lib.hid (Pass.ok1 hd (p4.mono (by omega)))
    have HBR := Lib.hid (byTo_root hd p4)
    have HBL := Lib.hid (fun k => byTo_le H1.out k)
    have HBS := Lib.hid (fun k => byTo_succ t k)
    have HOL := Lib.hid (fun u => ownTo_le H1.out u t.length)
    have HUL := Lib.hid (fun n => (show usgN t n ≤ 8000 from usg_le H1.out (visits t n)))
    have HUK := Lib.hid (fun n (hn : n < t.length) e (he : e ∈ kids t n) => usgN_kid hd (p4.mono (by omega)) hn he)
    have HUD := Lib.hid (fun n (hn : n < t.length) (hk : (nod t n).k = 1) => usgN_dir hd (p4.mono (by omega)) hn hk)
    have h40 := H1.out.le
    have hne := H1.out.ne
    have HR1 := Lib.hid r1
    have HR2 := Lib.hid r2
    have l1 := r1.lt
    have l2 := r2.lt
    clear HV hd p4 r1 r2
    go_wp2_with fail
    go_loopg [9, 10] 8 (fun gg s9 s10 wr => ∃ k : Nat, k ≤ 8 ∧ 8 - k ≤ gg ∧ s9 = .int .i64 (byTo t k : Nat) ∧ s10 = .int .i64 k ∧ W5 = wr)
    case atStart => exact ⟨0, by omega, by omega, by rw [byTo_zero]; rfl, rfl, rfl⟩
    case round =>
      obtain ⟨k, hk, hg, rfl, rfl, rfl⟩ := hrel
      by_cases hlt : k < 8
      · have hltz : (k : Int) < 8 := by omega
        have hi0 : (0 : Int) ≤ (k : Int) := Int.natCast_nonneg _
        have g0 := HR1.out.c k hlt
        have HS := Lib.hid (HBS.out k)
        have hb := HBL.out k
        have ho := HOL.out k
        generalize byTo t k = y at *
        generalize ownTo t t.length k = z at *
        have hwr : IntKind.i64.wrap ((y : Int) + (z : Int)) = (y : Int) + (z : Int) := IntWalk.i64_in _ (by omega)
        go_wp2_with fail
        go_roundg (8 - (k + 1))
        case measure => omega
        case rel => exact ⟨k + 1, by omega, by omega, by rw [HS.out]; go_num, by go_num, rfl⟩
      · obtain rfl : k = 8 := by omega
        rw [HBR.out]
        have g0 := HR2.out.c 0 hne
        have hz0 : (0 : Int) < (t.length : Int) := by omega
        go_wp2_with fail
        go_loopg [11, 12, 13, 14] t.length (fun gg s11 _ _ _ wr => ∃ k q : Nat, k ≤ t.length ∧ t.length - k ≤ gg ∧ s11 = .int .i64 k ∧ wr = W5.drewN q)
        case atStart => exact ⟨0, 0, by omega, by omega, rfl, rfl⟩
        case round =>
          obtain ⟨k, q, hk, hg, rfl, rfl⟩ := hrel
          clear g0
          by_cases hlt : k < t.length
          · have hltz : (k : Int) < (t.length : Int) := by omega
            have hi0 : (0 : Int) ≤ (k : Int) := Int.natCast_nonneg _
            have hm9 : t.length - (k + 1) < t.length - k := Nat.sub_lt_sub_left hlt (Nat.lt_succ_self k)
            obtain ⟨b, o, ve, vd, va, vx, rfl, hb, hc, hs⟩ := (H.out.below B5.out).one hlt
            obtain ⟨ea, ec, rfl, hec, hel, hef, hex⟩ := hs.es
            have h0 := hc.c0
            have h2 := hc.c2
            change (kids t k).length ≤ ec at hec
            change (kids t k).length ≤ 35184372088832 at hel
            change W5.cell? ⟨b, o + k * 8 + 2, none⟩ = some (.slice ea (kids t k).length ec) at h2
            have hk16 := (H1.out.fine k).len
            change (kids t k).length ≤ 16 at hk16
            have HEX := Lib.hid (show 0 < (kids t k).length → ∃ b o, ea = some ⟨b, o, none⟩ ∧ b < w.heap.size ∧ ∀ j, j < (kids t k).length →
              W5.cell? ⟨b, o + j * 2, none⟩ = some (.string ((kids t k).getD j D0).n) ∧ W5.cell? ⟨b, o + j * 2 + 1, none⟩ = some (.int .i64 ((kids t k).getD j D0).i) from hex)
            have HKD := Lib.hid (fun i (hi : i < (kids t k).length) => (show (kids t k).getD i D0 ∈ kids t k from by rw [deD hi]; exact List.getElem_mem hi))
            have HK := Lib.hid (fun e (he : e ∈ kids t k) => H1.out.kid he)
            have HKU := Lib.hid (fun e (he : e ∈ kids t k) => HUK.out k hlt e he)
            have HES := Lib.hid (fun i (hi : i < (kids t k).length) => entTo_succ (t := t) (n := k) hi)
            have HEL := Lib.hid (fun i (hi : i ≤ (kids t k).length) => entTo_le H1.out k i hi)
            have HEZ := Lib.hid (entTo_zero t k)
            have HD := Lib.hid (HUD.out k hlt)
            have u2 := HR2.out.c k hlt
            have hbs := B5.out.size
            clear hc hs hef hex
            generalize hes : kids t k = es at *
            generalize hm : es.length = m at *
            generalize usgN t k = uk at *
            go_wp2_with fail
            go_loopg [12, 13, 14] m (fun gg s12 s13 _ wr => ∃ i p : Nat, i ≤ m ∧ m - i ≤ gg ∧ s12 = .int .i64 (entTo t k i : Nat) ∧ s13 = .int .i64 i ∧ wr = W5.drewN p)
            case atStart => exact ⟨0, q, by omega, by omega, by rw [HEZ.out]; rfl, rfl, rfl⟩
            case round =>
              obtain ⟨i, p, hi, hgi, rfl, rfl, rfl⟩ := hrel
              have hel2 := HEL.out i hi
              by_cases hli : i < m
              · have hliz : (i : Int) < (m : Int) := by omega
                have hii0 : (0 : Int) ≤ (i : Int) := Int.natCast_nonneg _
                obtain ⟨be, oe, rfl, hbe, hje⟩ := HEX.out (by omega)
                have g1 := (hje i hli).2
                have HKE := Lib.hid (HKD.out i hli)
                have HS := Lib.hid (HES.out i hli)
                have hku := HKU.out _ HKE.out
                obtain ⟨_, q2, q3, _, _⟩ := HK.out _ HKE.out
                clear hje
                generalize es.getD i D0 = e at *
                obtain ⟨x, ei⟩ := e
                simp only at g1 HS hku q2 q3
                obtain ⟨n2, rfl⟩ := Int.eq_ofNat_of_zero_le (Int.le_of_lt q2)
                simp only [Int.toNat_natCast] at HS hku q3
                have u1 := HR2.out.c n2 q3
                have hul := HUL.out n2
                generalize usgN t n2 = ue at *
                generalize entTo t k i = et at *
                have n2z : (n2 : Int) < (t.length : Int) := by omega
                have n20 : (0 : Int) ≤ (n2 : Int) := Int.natCast_nonneg _
                have hgt : decide ((uk : Int) < (ue : Int)) = false := decide_eq_false (by omega)
                have hwr : IntKind.i64.wrap ((et : Int) + (ue : Int)) = (et : Int) + (ue : Int) := IntWalk.i64_in _ (by omega)
                have hmi : m - (i + 1) < m - i := by omega
                go_wp2_with fail
                go_quiet (fail)
                go_wp2_with fail
                go_roundg (m - (i + 1))
                case measure => omega
                case rel => exact ⟨i + 1, _, by omega, by omega, by rw [HS.out]; go_num, by go_num, rfl⟩
              · obtain rfl : i = m := by omega
                by_cases hk1 : (nod t k).k = 1
                · have hk1b : ((nod t k).k == 1) = true := by simpa using hk1
                  have hle := HD.out hk1
                  have hgt : decide ((entTo t k i : Int) < (uk : Int)) = false := decide_eq_false (by omega)
                  generalize entTo t k i = et at *
                  generalize (nod t k).k = gk at *
                  clear hk1
                  go_wp2_with fail
                  go_roundg (t.length - (k + 1))
                  case measure => exact Nat.lt_of_lt_of_le hm9 hg
                  case rel => exact ⟨k + 1, _, by omega, by omega, by go_num, rfl⟩
                · have hk1b : ((nod t k).k == 1) = false := by simpa using hk1
                  generalize entTo t k i = et at *
                  generalize (nod t k).k = gk at *
                  clear hk1 HD
                  go_wp2_with fail
                  go_roundg (t.length - (k + 1))
                  case measure => exact Nat.lt_of_lt_of_le hm9 hg
                  case rel => exact ⟨k + 1, _, by omega, by omega, by go_num, rfl⟩
          · obtain rfl : k = t.length := by omega
            go_wp2
            go_ret
            exact ⟨rfl, below_drewN B5.out _⟩
  · have hq1 : (q != 0) = true := by simpa using hq
    rcases K1 with ⟨_, rfl, rfl⟩ | ⟨h0, _⟩
    case inr => exact absurd h0 hq
    rcases K2 with ⟨_, rfl, rfl⟩ | ⟨h0, _⟩
    case inr => exact absurd h0 hq
    clear hq HV
    go_wp2
    go_ret
    exact ⟨rfl, B5.out⟩

end Go.Proofs.Ytndhhofidkaomaa
