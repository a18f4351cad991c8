/- The program's Skip: many steps in one go. No condition. -/
import Derived.Test.YtiknheoeldboaaaRngIntn

set_option linter.all false
namespace Go.Proofs.Ytiknheoeldboaaa
open Go.RowKit

/-- The numbers f and c make p steps at once. -/
def Jump (p : Nat) (f c : Int) : Prop := ∀ x : Int, 0 ≤ x → x < 4294967296 → sk p x = (f * x % 4294967296 + c) % 4294967296
theorem jump_one : Jump 1 1664525 1013904223 := fun x _ _ => (nx_spell x).symm
theorem mod_mul_mod (a b : Int) : a * (b % 4294967296) % 4294967296 = a * b % 4294967296 := by
  rw [Int.mul_emod, Int.emod_emod_of_dvd _ (Int.dvd_refl _), ← Int.mul_emod]
theorem jump_two {p : Nat} {f c : Int} (h : Jump p f c) : Jump (p * 2) (f * f % 4294967296) (c * ((f + 1) % 4294967296) % 4294967296) := fun x h0 h1 => by
  have hp : p * 2 = p + p := by omega
  rw [hp, sk_add, h x h0 h1, h _ (by omega) (by omega), mod_mul_mod, mod_mul_mod]
  have e1 : f * f % 4294967296 * x % 4294967296 = f * (f * x) % 4294967296 := by
    rw [Int.mul_comm, mod_mul_mod, Int.mul_comm x, Int.mul_assoc]
  rw [e1]
  have e2 : f * (f * x % 4294967296 + c) % 4294967296 = (f * (f * x) + c * f) % 4294967296 := by
    rw [Int.mul_add, Int.add_emod, mod_mul_mod, ← Int.add_emod, Int.mul_comm f c]
  rw [e2, Int.mul_add]
  generalize f * (f * x) = u
  generalize c * f = v
  omega
theorem jump_odd {p : Nat} {f c : Int} (h : Jump p f c) {k : Nat} (hk : k % 2 = 1) {x : Int} (h0 : 0 ≤ x) (h1 : x < 4294967296) : sk (k * p) x = sk (k / 2 * (p * 2)) ((f * x % 4294967296 + c) % 4294967296) := by
  rw [← h x h0 h1, ← sk_add]
  congr 1
  have : k = 2 * (k / 2) + 1 := by omega
  conv => lhs; rw [this]
  rw [Nat.add_mul, Nat.one_mul, Nat.mul_comm p 2, ← Nat.mul_assoc, Nat.mul_comm (k / 2) 2]
  omega
theorem jump_even {p : Nat} {k : Nat} (hk : ¬ k % 2 = 1) (x : Int) : sk (k * p) x = sk (k / 2 * (p * 2)) x := by
  congr 1
  have : k = 2 * (k / 2) := by omega
  conv => lhs; rw [this]
  rw [Nat.mul_comm p 2, ← Nat.mul_assoc, Nat.mul_comm (k / 2) 2]

def skV (s n : Int) : Int := if rfC s n 0 = 0 then sk n.toNat s else 0

set_option maxHeartbeats 1600000 in
theorem skip_any (s n : Int) (w : World) :
    Calls Try.prog 18 #[.int .i64 s, .int .i64 n] w (NX (skV s n) (rfC s n 0) (rfI s n 0) w) := by
  have C1 := Lib.hid (fun W => check_any s n 0 W)
  unfold CK at C1
  rcases rfC_or s n 0 with h | h
  · have e1 : skV s n = 0 := by unfold skV; rw [if_neg (by rw [h]; decide)]
    rw [h] at C1; rw [h, e1]
    clear h e1
    generalize rfI s n 0 = i at *
    go_enter Try.func18, Try.ntmps18
    go_wp2_with fail
    refine (C1.out _).mono ?_
    rintro e W1 ⟨rfl, b1⟩
    obtain ⟨l0, a0, a1, f0, f1⟩ := (FBox.new w 0 0 23).below b1 (by simp)
    have B1 : Below w.heap.size w W1 := ((Below.refl _ _).alloc (Nat.le_refl _) _).trans (b1.mono (by simp))
    clear b1 C1
    go_wp2
    go_region
    all_goals
      go_wp2
      exact bodyPost_ret (v := .tuple #[.int .i64 0, faultV 3 i]) (by simp [results, Try.results18, faultV, go_sem, l0, a0, a1]) rfl ⟨rfl, by repeat (first | exact B1 | refine Below.setCell ?_ (by simp) _ | refine Below.alloc ?_ (by have := B1.size; simp; omega) _ | refine Below.drew ?_)⟩
  · obtain ⟨hs0, hs1, hn, hN⟩ := rfC_zero h
    obtain ⟨n, rfl⟩ := Int.eq_ofNat_of_zero_le hn
    have e1 : skV s (n : Int) = sk n s := by unfold skV; rw [if_pos h]; rfl
    rw [h, rfI_zero h] at C1; rw [h, rfI_zero h, e1]
    have HY := sd_iff.1 (sk_sd (sd_iff.2 ⟨hs0, hs1⟩) n)
    have J1 := Lib.hid jump_one
    have K1 := Lib.hid (show sk (n * 1) s = sk n s by rw [Nat.mul_one])
    clear h e1
    generalize sk n s = y at *
    go_enter Try.func18, Try.ntmps18
    go_wp2_with fail
    refine (C1.out _).mono ?_
    rintro e W1 ⟨rfl, b1⟩
    obtain ⟨l0, a0, a1, f0, f1⟩ := (FBox.new w 0 0 23).below b1 (by simp)
    have B1 : Below w.heap.size w W1 := ((Below.refl _ _).alloc (Nat.le_refl _) _).trans (b1.mono (by simp))
    clear b1 C1
    go_wp2_with fail
    go_loop [1, 7, 8, 9] (fun s1 s7 s8 s9 => ∃ (k p : Nat) (x f c : Int), (k : Int) ≤ 1000000 ∧ 0 ≤ x ∧ x < 4294967296 ∧ s1 = .int .i64 k ∧ s7 = .int .u32 x ∧ s8 = .int .u32 f ∧ s9 = .int .u32 c ∧ Hid (Jump p f c) ∧ Hid (sk (k * p) x = y)) (fun s1 _ _ _ => (intOf s1).toNat)
    case atStart => exact ⟨n, 1, s, 1664525, 1013904223, hN, hs0, hs1, rfl, rfl, rfl, rfl, J1, K1⟩
    case round =>
      obtain ⟨k, p, x, f, c, hk, hx0, hx1, rfl, rfl, rfl, rfl, HJ, HK⟩ := hrel
      clear J1 K1
      have hk0 : (0 : Int) ≤ (k : Int) := Int.natCast_nonneg _
      by_cases hlt : 0 < k
      · have hltz : (0 : Int) < (k : Int) := by omega
        have X2 := Lib.hid (jump_two HJ.out)
        by_cases hodd : k % 2 = 1
        · have X1 := Lib.hid ((jump_odd HJ.out hodd hx0 hx1).symm.trans HK.out)
          have t1 : ((k : Int) % 2 == 1) = true := by simp; omega
          have hb : 0 ≤ (f * x % 4294967296 + c) % 4294967296 ∧ (f * x % 4294967296 + c) % 4294967296 < 4294967296 := by omega
          clear HJ HK hodd
          go_wp2
          go_round
          case rel => exact ⟨k / 2, p * 2, _, _, _, by omega, hb.1, hb.2, by go_num, rfl, rfl, rfl, X2, X1⟩
          case measure => simp [intOf]; omega
        · have X1 := Lib.hid ((jump_even (p := p) hodd x).symm.trans HK.out)
          have t1 : ((k : Int) % 2 == 1) = false := by simp; omega
          clear HJ HK hodd
          go_wp2
          go_round
          case rel => exact ⟨k / 2, p * 2, _, _, _, by omega, hx0, hx1, by go_num, rfl, rfl, rfl, X2, X1⟩
          case measure => simp [intOf]; omega
      · obtain rfl : k = 0 := by omega
        have e := HK.out
        rw [Nat.zero_mul, sk] at e
        subst e
        clear HJ HK
        go_wp2
        exact bodyPost_ret (v := .tuple #[.int .i64 x, faultV 0 0]) (by simp [results, Try.results18, faultV, go_sem, l0, a0, a1]) rfl ⟨rfl, by repeat (first | exact B1 | refine Below.setCell ?_ (by simp) _ | refine Below.alloc ?_ (by have := B1.size; simp; omega) _)⟩

end Go.Proofs.Ytiknheoeldboaaa
