/- The law RngLowBitsFullPeriod returns true at every seed and every number of bits. Conditions: as the theorem states. -/
import Derived.Test.YtiknheoeldboaaaRngIntn
import Derived.Test.YtiknheoeldboaaaRngLow
import Derived.Test.YtiknheoeldboaaaRow0
import Derived.BigQuiet
import Derived.Deep.QuietTactic
import Derived.Deep.RegionHeld3

set_option linter.all false
namespace Go.Proofs.Ytiknheoeldboaaa
open Go.RowKit

set_option maxHeartbeats 1600000 in
theorem lawLowBad_any (s u : Int) (w : World) (h : rfC s 0 0 = 3) (hs : ¬ sd s = true) :
    Calls Try.prog 7 #[.int .i64 s, .int .u8 u] w fun e w' => e = .returned (.bool true) ∧ Below w.heap.size w w' := by
  have C1 := Lib.hid (fun W => next_any s W)
  have C3 := Lib.hid (fun W => validSeed_any s 0 0 W)
  have C4 := Lib.hid (fun W => rngExample_any W)
  unfold NX at C1
  unfold CK at C3
  have e1 : nxV s = 0 := by unfold nxV; rw [if_neg hs]
  rw [h, e1] at C1; rw [h] at C3
  clear h e1 hs
  generalize rfI s 0 0 = i at *
  have hfd := fun W => field_code 3 i W
  go_enter Try.func7, Try.ntmps7
  go_wp2_with fail
  refine (C3.out _).mono ?_
  rintro e W3 ⟨rfl, b3⟩
  go_wp2_with fail
  refine (C1.out _).mono ?_
  rintro e W1 ⟨rfl, b1⟩
  have B1 := b3.trans (b1.mono b3.size)
  clear b1 b3
  go_wp2_with fail
  refine (C4.out _).mono ?_
  rintro e W4 ⟨rfl, b4⟩
  go_wp2
  go_ret
  exact ⟨rfl, (B1.alloc B1.size _).trans (b4.mono (by have := B1.size; simp; omega))⟩

/-- Whether the number v is among the first k of the run from r. -/
def metB (f : Nat → Nat) (r k v : Nat) : Bool := (List.range k).any fun i => Nat.beq (it f i r) v
theorem metB_succ (f : Nat → Nat) (r k v : Nat) : (if v = it f k r then Value.bool true else .bool (metB f r k v)) = .bool (metB f r (k + 1) v) := by
  unfold metB
  rw [List.range_succ, List.any_append]
  by_cases e : v = it f k r
  · rw [if_pos e, e]; simp
  · rw [if_neg e]
    have h : Nat.beq (it f k r) v = false := Bool.eq_false_iff.2 fun h => e (Nat.eq_of_beq_eq_true h).symm
    simp [h]
theorem metB_not {m : Nat} {f : Nat → Nat} (h : Lows m f) {r k : Nat} (hr : r < m) (hk : k < m) : metB f r k (it f k r) = false := by
  unfold metB
  rw [List.any_eq_false]
  intro i hi hb
  have hi2 := List.mem_range.1 hi
  have := (h.low r hr).2 i k (by omega) hk (Nat.eq_of_beq_eq_true hb)
  omega

theorem wrap_two {c : Nat} (hc : c < 8) : wrap64 ((2 : Int) ^ (1 + c)) = ((two c : Nat) : Int) ∧ 0 < two c ∧ two c ≤ 256 := by
  have : c = 0 ∨ c = 1 ∨ c = 2 ∨ c = 3 ∨ c = 4 ∨ c = 5 ∨ c = 6 ∨ c = 7 := by omega
  rcases this with rfl | rfl | rfl | rfl | rfl | rfl | rfl | rfl <;> decide +kernel

set_option maxHeartbeats 3200000 in
theorem lawLowOk_any (s u : Int) (c : Nat) (w : World) (hs : sd s = true) (h0 : 0 ≤ u) (h1 : u < 256) (hc : u % 8 = (c : Int)) :
    Calls Try.prog 7 #[.int .i64 s, .int .u8 u] w fun e w' => e = .returned (.bool true) ∧ Below w.heap.size w w' := by
  have C1 := Lib.hid (fun x (h0 : 0 ≤ x) (h1 : x < 4294967296) W => next_any x W)
  have C3 := Lib.hid (fun W => validSeed_any s 0 0 W)
  have C4 := Lib.hid (fun W => rngExample_any W)
  unfold NX at C1
  unfold CK at C3
  have h : rfC s 0 0 = 0 := by unfold rfC; rw [if_pos hs, if_neg (by omega)]
  rw [h, rfI_zero h] at C3
  clear h
  obtain ⟨hs0, hs1⟩ := sd_iff.1 hs
  have hc8 : (c : Int) < 8 := by omega
  have hc0 : 0 ≤ (c : Int) := by omega
  have hu : u.tmod 8 = (c : Int) := by rw [Int.tmod_eq_emod_of_nonneg h0, hc]
  obtain ⟨hw2, hm0, hm1⟩ := wrap_two (c := c) (by omega)
  obtain ⟨f, HL⟩ := lows_any (c := c) (by omega)
  have H := Lib.hid HL
  clear HL hs
  generalize two c = m at *
  have hmk := make_boolsN m (by omega)
  have hfd := fun W => field_code 0 0 W
  obtain ⟨r, hr⟩ : ∃ r : Nat, s % (m : Int) = (r : Int) := ⟨(s % (m : Int)).toNat, by have := Int.emod_nonneg s (b := (m : Int)) (by omega); omega⟩
  have hrm : r < m := by have := Int.emod_lt_of_pos s (b := (m : Int)) (by omega); omega
  have HR := Lib.hid hr
  clear hr
  go_enter Try.func7, Try.ntmps7
  go_wp2_with fail
  refine (C3.out _).mono ?_
  rintro e W3 ⟨rfl, b3⟩
  have BR := Lib.hid (b3.alloc b3.size (.cells (madeCells #[.bool false] m) 4))
  have RR := Lib.hid ((row_new W3 m (.bool false) 4).ext (g := fun v => .bool (metB f r 0 v)) (fun j _ => rfl))
  have hRw := b3.size
  clear b3
  go_wp2_with fail
  rw [hw2]
  clear hmk hw2 hu hc hfd
  generalize hR : W3.heap.size = R at *
  generalize hW2 : W3.alloc (.cells (madeCells #[.bool false] m) 4) = W2 at *
  clear hW2
  go_loopg [9, 10] m (fun gg s9 s10 wr => ∃ (k : Nat) (x : Int), (k ≤ m ∧ m - k ≤ gg) ∧ 0 ≤ x ∧ x < 4294967296 ∧ s9 = .int .i64 x ∧ s10 = .int .i64 k ∧ Hid (sk k s = x) ∧ Aside (Below w.heap.size w wr) ∧ Aside (Row wr R m (fun v => .bool (metB f r k v))))
  case atStart => exact ⟨0, s, ⟨by omega, by omega⟩, hs0, hs1, rfl, rfl, Lib.hid rfl, BR.out, RR.out⟩
  case round =>
    obtain ⟨k, x, ⟨hk, hg⟩, hx0, hx1, rfl, rfl, HX, B4, R4⟩ := hrel
    clear BR RR
    have hxm : x % (m : Int) = ((it f k r : Nat) : Int) := by
      have e := H.out.sk k s hs0 hs1
      rw [HX.out, HR.out, Int.toNat_natCast] at e
      exact e
    by_cases hlt : k < m
    · have hltz : (k : Int) < (m : Int) := by omega
      have hvm : it f k r < m := by have := Int.emod_lt_of_pos x (b := (m : Int)) (by omega); omega
      have rc := R4.out.c _ hvm
      have rz := R4.out.fz (it f k r)
      have rl := R4.out.lt
      have RS := Lib.hid ((R4.out.put hvm (.bool true)).ext (g := fun v => .bool (metB f r (k + 1) v)) (fun j _ => metB_succ f r k j))
      have BS := Lib.hid (B4.out.setCell (p := ⟨R, it f k r, none⟩) hRw (.bool true))
      rw [metB_not H.out hrm hlt] at rc
      have hy := sd_iff.1 (nx_sd x)
      have C5 := Lib.hid (fun W => C1.out x hx0 hx1 W)
      have e1 : nxV x = nx x := by unfold nxV; rw [if_pos (sd_iff.2 ⟨hx0, hx1⟩)]
      have e2 : rfC x 0 0 = 0 := by unfold rfC; rw [if_pos (sd_iff.2 ⟨hx0, hx1⟩), if_neg (by omega)]
      rw [e1, e2, rfI_zero e2] at C5
      have XS := Lib.hid (show sk (k + 1) s = nx x by rw [sk_add, HX.out]; rfl)
      clear e1 e2
      generalize nx x = y at *
      generalize it f k r = v at *
      have v0 : (0 : Int) ≤ (v : Int) := Int.natCast_nonneg _
      have vm : (v : Int) < (m : Int) := by omega
      go_wp2_with fail
      clear rc
      refine (C5.out _).mono ?_
      rintro e W5 ⟨rfl, b5⟩
      have R5 := Lib.hid ((RS.out.below b5 RS.out.lt).alloc (.cells #[.int .i64 0, .int .i64 0] 23))
      have B5 := Lib.hid ((BS.out.trans (b5.mono BS.out.size)).alloc (Nat.le_trans BS.out.size b5.size) (.cells #[.int .i64 0, .int .i64 0] 23))
      clear b5 rz rl
      go_wp2_with fail
      go_roundg (m - (k + 1))
      case measure => omega
      case rel => exact ⟨k + 1, y, ⟨by omega, by omega⟩, hy.1, hy.2, rfl, by go_num, XS, B5.out, R5.out⟩
    · obtain rfl : k = m := by omega
      have hsm := HR.out
      rw [(H.out.low r hrm).1] at hxm
      have hx2 : x.tmod (k : Int) = (r : Int) := by rw [Int.tmod_eq_emod_of_nonneg hx0, hxm]
      have hs2 : s.tmod (k : Int) = (r : Int) := by rw [Int.tmod_eq_emod_of_nonneg hs0, hsm]
      have k1 : (1 : Int) ≤ (k : Int) := by omega
      have k2 : ((k : Int) == 0) = false := by simp; omega
      have k3 : ¬ (k : Int) = 0 := by omega
      have k4 : ¬ k = 0 := by omega
      clear hlt HX R4 H C1 C3
      go_wp2_with fail
      go_region_held3 (fun y => Below wr.heap.size wr y)
        (first | exact hR | exact (Below.refl _ _).drew | fail)
        ((go_at_call 11; have hs0 := ‹Below wr.heap.size wr _›; refine (C4.out _).mono ?_; rintro e y ⟨rfl, hb9⟩; have hR := hs0.trans (hb9.mono hs0.size)))
      all_goals
        have hz := ‹Below wr.heap.size wr _›
        go_wp2
        go_ret
        exact ⟨rfl, B4.out.trans (hz.mono B4.out.size)⟩

theorem lawLow_any (s u : Int) (w : World) (hu : 0 ≤ u ∧ u < 256) :
    Calls Try.prog 7 #[.int .i64 s, .int .u8 u] w fun e w' => e = .returned (.bool true) ∧ Below w.heap.size w w' := by
  by_cases hs : sd s = true
  · exact lawLowOk_any s u (u % 8).toNat w hs hu.1 hu.2 (by omega)
  · exact lawLowBad_any s u w (by unfold rfC; rw [if_neg hs]) hs

end Go.Proofs.Ytiknheoeldboaaa
