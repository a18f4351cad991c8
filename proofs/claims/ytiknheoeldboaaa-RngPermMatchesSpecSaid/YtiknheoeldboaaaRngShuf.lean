/- The shuffle in plain words; the program's Perm: the fault, or the shuffled row and the next seed. No condition. -/
import Derived.Test.YtiknheoeldboaaaRngIntn
import Derived.Test.YtiknheoeldboaaaIntRow

set_option linter.all false
namespace Go.Proofs.Ytiknheoeldboaaa
open Go.RowKit

def swapF (f : Nat → Int) (i j : Nat) : Nat → Int := fun k => if k = j then f i else if k = i then f j else f k
def drawJ (s : Int) (i : Nat) : Nat := (nx s / 65536 % ((i : Int) + 1)).toNat
theorem drawJ_lt (s : Int) (i : Nat) : drawJ s i < i + 1 ∧ ((drawJ s i : Nat) : Int) = nx s / 65536 % ((i : Int) + 1) := by
  have h1 := Int.emod_nonneg (nx s / 65536) (b := (i : Int) + 1) (by omega)
  have h2 := Int.emod_lt_of_pos (nx s / 65536) (b := (i : Int) + 1) (by omega)
  unfold drawJ; omega
/-- r swaps are left; the next one is of the places r and drawJ. -/
def shuf : Nat → Int → (Nat → Int) → (Nat → Int) × Int
  | 0, s, f => (f, s)
  | r + 1, s, f => shuf r (nx s) (swapF f (r + 1) (drawJ s (r + 1)))
theorem Row.swap {w : World} {R m : Nat} {f : Nat → Int} (h : Row w R m (fun k => .int .i64 (f k))) {i j : Nat} (hi : i < m) (hj : j < m) :
    Row ((w.setCell ⟨R, i, none⟩ (.int .i64 (f j))).setCell ⟨R, j, none⟩ (.int .i64 (f i))) R m (fun k => .int .i64 (swapF f i j k)) := by
  refine ((h.put hi _).put hj _).ext fun k _ => ?_
  unfold swapF
  by_cases e1 : k = j
  · rw [if_pos e1, if_pos e1]
  · rw [if_neg e1, if_neg e1]
    by_cases e2 : k = i
    · rw [if_pos e2, if_pos e2]
    · rw [if_neg e2, if_neg e2]

/-- The fault of Perm. -/
def pfC (s n : Int) : Int := if rfC s n 0 = 0 then (if 200 < n then 2 else 0) else rfC s n 0
def PermPost (s n : Int) (w : World) (e : Ending) (w' : World) : Prop :=
  (pfC s n ≠ 0 ∧ e = .returned (.tuple #[.slice none 0 0, .int .i64 0, .agg #[.int .i64 (pfC s n), .int .i64 (rfI s n 0)]]) ∧ Below w.heap.size w w') ∨
    (pfC s n = 0 ∧ ∃ R, w.heap.size ≤ R ∧ e = .returned (.tuple #[.slice (some ⟨R, 0, none⟩) n.toNat n.toNat, .int .i64 (shuf (n.toNat - 1) s (fun j => (j : Int))).2, .agg #[.int .i64 0, .int .i64 0]]) ∧
      Row w' R n.toNat (fun j => .int .i64 ((shuf (n.toNat - 1) s (fun j => (j : Int))).1 j)) ∧ Below w.heap.size w w')

def upI (k j : Nat) : Int := if j < k then (j : Int) else 0
theorem upI_succ (k j : Nat) : (if j = k then Value.int .i64 (k : Int) else .int .i64 (upI k j)) = .int .i64 (upI (k + 1) j) := by
  unfold upI
  by_cases e : j = k
  · subst e; rw [if_pos rfl, if_pos (by omega)]
  · rw [if_neg e]
    by_cases h : j < k
    · rw [if_pos h, if_pos (by omega)]
    · rw [if_neg h, if_neg (by omega)]

set_option maxHeartbeats 1600000 in
theorem permBad_any (s n : Int) (w : World) (h : rfC s n 0 = 3) :
    Calls Try.prog 14 #[.int .i64 s, .int .i64 n] w fun e w' => e = .returned (.tuple #[.slice none 0 0, .int .i64 0, .agg #[.int .i64 3, .int .i64 (rfI s n 0)]]) ∧ Below w.heap.size w w' := by
  have C1 := Lib.hid (fun W => check_any s n 0 W)
  unfold CK at C1
  rw [h] at C1
  clear h
  generalize rfI s n 0 = i at *
  go_enter Try.func14, Try.ntmps14
  go_wp2_with fail
  refine (C1.out _).mono ?_
  rintro e W1 ⟨rfl, b1⟩
  obtain ⟨l0, a0, a1, f0, f1⟩ := (FBox.new w 0 0 23).below b1 (by simp)
  have B1 : Below w.heap.size w W1 := ((Below.refl _ _).alloc (Nat.le_refl _) _).trans (b1.mono (by simp))
  clear b1 C1
  go_wp2
  go_region
  all_goals
    go_wp2
    exact bodyPost_ret (v := .tuple #[.slice none 0 0, .int .i64 0, faultV 3 i]) (by simp [results, Try.results14, faultV, go_sem, l0, a0, a1]) rfl ⟨rfl, by repeat (first | exact B1 | refine Below.setCell ?_ (by simp) _ | refine Below.alloc ?_ (by have := B1.size; simp; omega) _ | refine Below.drew ?_)⟩

set_option maxHeartbeats 1600000 in
theorem permMany_any (s n : Int) (w : World) (h : rfC s n 0 = 0) (hn : 200 < n) :
    Calls Try.prog 14 #[.int .i64 s, .int .i64 n] w fun e w' => e = .returned (.tuple #[.slice none 0 0, .int .i64 0, .agg #[.int .i64 2, .int .i64 0]]) ∧ Below w.heap.size w w' := by
  have C1 := Lib.hid (fun W => check_any s n 0 W)
  unfold CK at C1
  rw [h, rfI_zero h] at C1
  clear h
  go_enter Try.func14, Try.ntmps14
  go_wp2_with fail
  refine (C1.out _).mono ?_
  rintro e W1 ⟨rfl, b1⟩
  obtain ⟨l0, a0, a1, f0, f1⟩ := (FBox.new w 0 0 23).below b1 (by simp)
  have B1 : Below w.heap.size w W1 := ((Below.refl _ _).alloc (Nat.le_refl _) _).trans (b1.mono (by simp))
  clear b1 C1
  go_wp2
  exact bodyPost_ret (v := .tuple #[.slice none 0 0, .int .i64 0, faultV 2 0]) (by simp [results, Try.results14, faultV, go_sem, l0, a0, a1]) rfl ⟨rfl, by repeat (first | exact B1 | refine Below.setCell ?_ (by simp) _ | refine Below.alloc ?_ (by have := B1.size; simp; omega) _)⟩

set_option maxHeartbeats 3200000 in
theorem permOk_any (s : Int) (n : Nat) (w : World) (h : rfC s (n : Int) 0 = 0) (hn : n ≤ 200) :
    Calls Try.prog 14 #[.int .i64 s, .int .i64 (n : Int)] w (fun e w' => ∃ R, w.heap.size ≤ R ∧ e = .returned (.tuple #[.slice (some ⟨R, 0, none⟩) n n, .int .i64 (shuf (n - 1) s (fun j => (j : Int))).2, .agg #[.int .i64 0, .int .i64 0]]) ∧
      Row w' R n (fun j => .int .i64 ((shuf (n - 1) s (fun j => (j : Int))).1 j)) ∧ Below w.heap.size w w') := by
  have C1 := Lib.hid (fun W => check_any s n 0 W)
  obtain ⟨hs0, hs1, _, _⟩ := rfC_zero h
  unfold CK at C1
  rw [h, rfI_zero h] at C1
  clear h
  have hmk := make_intsN n (by omega)
  have hnz : (0 : Int) ≤ (n : Int) := Int.natCast_nonneg _
  have hn2 : (n : Int) ≤ 200 := by omega
  go_enter Try.func14, Try.ntmps14
  go_wp2_with fail
  refine (C1.out _).mono ?_
  rintro e W1 ⟨rfl, b1⟩
  have F0 := (FBox.new w 0 0 23).below b1 (by simp)
  have l0 := F0.lt
  have a0 := F0.c0
  have a1 := F0.c1
  have f0 := F0.f0
  have f1 := F0.f1
  have B1 : Below w.heap.size w W1 := ((Below.refl _ _).alloc (Nat.le_refl _) _).trans (b1.mono (by simp))
  clear b1 C1
  have FR := Lib.hid ((F0.alloc (.cells #[.int .i64 0, .int .i64 0] 23)).alloc (.cells (madeCells #[.int .i64 0] n) 3))
  have BR := Lib.hid (show Below w.heap.size w ((W1.alloc (.cells #[.int .i64 0, .int .i64 0] 23)).alloc (.cells (madeCells #[.int .i64 0] n) 3)) from (B1.alloc B1.size _).alloc (by have := B1.size; simp; omega) _)
  have RR := Lib.hid (show Row ((W1.alloc (.cells #[.int .i64 0, .int .i64 0] 23)).alloc (.cells (madeCells #[.int .i64 0] n) 3)) (W1.heap.size + 1) n (fun j => .int .i64 (upI 0 j)) from
      ((row_new (W1.alloc _) n (.int .i64 0) _).at_ (by simp)).ext (fun j _ => rfl))
  have hRw : w.heap.size < W1.heap.size + 1 := by omega
  go_wp2_with fail
  clear a0 a1 f0 f1 l0 F0 B1 hmk
  generalize hR : W1.heap.size + 1 = R at *
  generalize hW2 : (W1.alloc (.cells #[.int .i64 0, .int .i64 0] 23)).alloc (.cells (madeCells #[.int .i64 0] n) 3) = W2 at *
  clear hW2
  go_loopg [9, 28] n (fun gg _ s28 wr => ∃ k : Nat, k ≤ n ∧ n - k ≤ gg ∧ s28 = .int .i64 k ∧ Aside (Below w.heap.size w wr) ∧ Aside (FBox wr w.heap.size 0 0) ∧ Aside (Row wr R n (fun j => .int .i64 (upI k j))))
  case atStart => exact ⟨0, by omega, by omega, rfl, BR.out, FR.out, RR.out⟩
  case round =>
    obtain ⟨k, hk, hg, rfl, B3, F3, R3⟩ := hrel
    clear BR RR FR
    by_cases hlt : k < n
    · have hltz : (k : Int) < (n : Int) := by omega
      have hi0 : (0 : Int) ≤ (k : Int) := Int.natCast_nonneg _
      have rc := R3.out.c k hlt
      have rz := R3.out.fz k
      have rl := R3.out.lt
      have hm9 : n - (k + 1) < n - k := Nat.sub_lt_sub_left hlt (Nat.lt_succ_self k)
      go_wp2_with fail
      go_roundg (n - (k + 1))
      case measure => exact Nat.lt_of_lt_of_le hm9 hg
      case rel => exact ⟨k + 1, by omega, by omega, by go_num, B3.out.setCell (Nat.le_of_lt hRw) _, F3.out.far (by first | omega | (simp; done) | (simp; omega)) _, (R3.out.put hlt _).ext fun j _ => upI_succ k j⟩
    · obtain rfl : k = n := by omega
      have S1 := Lib.hid (R3.out.ext (g := fun j => .int .i64 ((fun q : Nat => (q : Int)) j)) (fun j hj => by unfold upI; rw [if_pos hj]))
      clear R3 hk
      go_wp2_with fail
      generalize hP : shuf (k - 1) s (fun q : Nat => (q : Int)) = P at *
      have HP := Lib.hid hP
      clear hP hg hlt
      go_loopg [10, 40] k (fun gg s10 s40 wr => ∃ (m : Nat) (x : Int) (f : Nat → Int), (m ≤ k - 1 ∧ k - m ≤ gg) ∧ 0 ≤ x ∧ x < 4294967296 ∧ s10 = .int .u32 x ∧ s40 = .int .i64 m ∧ Aside (Below w.heap.size w wr) ∧ Aside (FBox wr w.heap.size 0 0) ∧ Aside (Row wr R k (fun j => .int .i64 (f j))) ∧ Hid (shuf (k - 1 - m) x f = P))
      case atStart => exact ⟨0, s, _, ⟨by omega, by omega⟩, hs0, hs1, rfl, rfl, B3.out, F3.out, S1.out, HP.out⟩
      case round =>
        obtain ⟨m, x, f, ⟨hm, hg⟩, hx0, hx1, rfl, rfl, B4, F4, R4, H4⟩ := hrel
        clear B3 F3 S1
        have hk0 : (0 : Int) ≤ (m : Int) := Int.natCast_nonneg _
        by_cases hlt : m + 1 < k
        · obtain ⟨i, hi⟩ : ∃ i, k = m + 2 + i := ⟨k - (m + 2), by omega⟩
          have hltz : (m : Int) < (k : Int) - 1 := by omega
          have he : (k : Int) - 1 - (m : Int) = ((i + 1 : Nat) : Int) := by omega
          have hj := drawJ_lt x (i + 1)
          have H5 := Lib.hid (show shuf (k - 1 - (m + 1)) (nx x) (swapF f (i + 1) (drawJ x (i + 1))) = P by
            have e : k - 1 - m = i + 1 := by omega
            have e2 : k - 1 - (m + 1) = i := by omega
            rw [← H4.out, e, e2]; rfl)
          have C2 := Lib.hid (fun W => draw_any x (((i + 1 : Nat) : Int) + 1) W (by omega) (by omega))
          have hy := sd_iff.1 (nx_sd x)
          rw [← hj.2] at C2
          generalize drawJ x (i + 1) = j at *
          generalize nx x = y at *
          have hi2 : i + 1 < k := by omega
          have hj2 : j < k := by omega
          have hj1 := hj.1
          clear hj
          have hm9 : k - (m + 1) < k - m := by omega
          have hm1 : m + 1 ≤ k - 1 := by omega
          clear H4 hi
          generalize i + 1 = i at *
          have rci := R4.out.c i hi2
          have rcj := R4.out.c j hj2
          have rzi := R4.out.fz i
          have rzj := R4.out.fz j
          have rl := R4.out.lt
          have hiz : (i : Int) < (k : Int) := by omega
          have hjz : (j : Int) < (k : Int) := by omega
          have hi0 : (0 : Int) ≤ (i : Int) := Int.natCast_nonneg _
          have hj0 : (0 : Int) ≤ (j : Int) := Int.natCast_nonneg _
          have HS := Lib.hid (R4.out.swap hi2 hj2)
          have rcs := (R4.out.put hi2 (.int .i64 (f j))).c j hj2
          generalize (if j = i then Value.int .i64 (f j) else .int .i64 (f j)) = v9 at rcs
          have HB := Lib.hid ((B4.out.setCell (p := ⟨R, i, none⟩) (Nat.le_of_lt hRw) (.int .i64 (f j))).setCell (p := ⟨R, j, none⟩) (Nat.le_of_lt hRw) (.int .i64 (f i)))
          have HF := Lib.hid ((F4.out.far (p := ⟨R, i, none⟩) (Nat.ne_of_lt hRw) (.int .i64 (f j))).far (p := ⟨R, j, none⟩) (Nat.ne_of_lt hRw) (.int .i64 (f i)))
          generalize f i = fi at *
          generalize f j = fj at *
          go_wp2_with fail
          refine (C2.out _).mono ?_
          rintro e W5 ⟨rfl, rfl⟩
          go_wp2_with fail
          go_region
          all_goals
            go_wp2
            go_roundg (k - (m + 1))
            case measure => omega
            case rel => exact ⟨m + 1, y, _, ⟨hm1, by omega⟩, hy.1, hy.2, rfl, by go_num, HB.out.drew, HF.out.below (Below.refl _ _).drew HF.out.lt, HS.out.below (Below.refl _ _).drew HS.out.lt, H5⟩
        · have e : k - 1 - m = 0 := by omega
          have e2 := H4.out
          rw [e] at e2
          have e3 : P = (f, x) := e2.symm
          subst e3
          have hge : ¬ (m : Int) < (k : Int) - 1 := by omega
          clear H4 e e2
          have l0 := F4.out.lt
          have a0 := F4.out.c0
          have a1 := F4.out.c1
          have f0 := F4.out.f0
          have f1 := F4.out.f1
          go_wp2
          refine bodyPost_ret (v := .tuple #[.slice (some ⟨R, 0, none⟩) k k, .int .i64 x, faultV 0 0]) (by simp [results, Try.results14, faultV, go_sem, l0, a0, a1]) rfl ⟨R, Nat.le_of_lt hRw, by rw [HP.out]; rfl, ?_, ?_⟩
          · rw [HP.out]; exact (R4.out.far (by simp; omega) _).far (by simp; omega) _
          · exact (B4.out.setCell (by simp) _).setCell (by simp) _

theorem perm_any (s n : Int) (w : World) : Calls Try.prog 14 #[.int .i64 s, .int .i64 n] w (PermPost s n w) := by
  rcases rfC_or s n 0 with h | h
  · have e : pfC s n = 3 := by unfold pfC; rw [if_neg (by rw [h]; decide), h]
    refine (permBad_any s n w h).mono fun e2 w' hh => .inl ⟨by rw [e]; decide, by rw [e]; exact hh.1, hh.2⟩
  · obtain ⟨_, _, hn0, _⟩ := rfC_zero h
    by_cases hn : 200 < n
    · have e : pfC s n = 2 := by unfold pfC; rw [if_pos h, if_pos hn]
      refine (permMany_any s n w h hn).mono fun e2 w' hh => .inl ⟨by rw [e]; decide, by rw [e, rfI_zero h]; exact hh.1, hh.2⟩
    · have e : pfC s n = 0 := by unfold pfC; rw [if_pos h, if_neg hn]
      obtain ⟨n, rfl⟩ := Int.eq_ofNat_of_zero_le hn0
      exact (permOk_any s n w h (by omega)).mono fun e2 w' hh => .inr ⟨e, hh⟩

end Go.Proofs.Ytiknheoeldboaaa
