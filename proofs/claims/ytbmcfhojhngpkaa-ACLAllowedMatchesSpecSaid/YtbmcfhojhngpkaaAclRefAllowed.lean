/- The reference's Allowed at every access control list: the entries backwards. Conditions: the slice's cells lie in memory as they read. -/
import Derived.Test.YtbmcfhojhngpkaaAclApplies
namespace Go.Proofs.Ytbmcfhojhngpkaa
open Go.RowKit

/-- What one entry does to the answer of those behind it. -/
def stepR (e : Ent) (x m : Int) (r : Bool) : Bool :=
  if e.u ≠ x ∧ e.u ≠ -1 then r else if bits .and .i64 e.d m ≠ 0 then false else if bits .and .i64 e.a m ≠ 0 then true else r
def decRL : List Ent → Int → Int → Int → Bool
  | [], o, x, _ => decide (x = o)
  | e :: l, o, x, m => stepR e x m (decRL l o x m)
def decR (xs : List Ent) (o x m : Int) : Bool := decRL xs o x m || decide (x = 0)
theorem decRL_drop {xs : List Ent} {j : Nat} (h : j < xs.length) (o x m : Int) : decRL (xs.drop j) o x m = stepR (xs.getD j E0) x m (decRL (xs.drop (j + 1)) o x m) := by
  rw [List.drop_eq_getElem_cons h, entD h]; rfl

set_option maxHeartbeats 800000 in
theorem refAllowed_any (v : Value) (xs : List Ent) (o x m : Int) (w : World) (B : Nat) (h : Acls w B v xs) :
    Calls Try.prog 14 #[v, .int .i64 o, .int .i64 x, .int .i64 m] w fun e w' => e = .returned (.bool (decR xs o x m)) ∧ w = w' := by
  obtain ⟨a, c, rfl, hc, hl, hf, hx⟩ := h
  clear hf
  go_enter Try.func14, Try.ntmps14
  go_wp2
  go_loop [9, 10] (fun s9 s10 => ∃ (k : Nat) (i : Int) (r : Bool), k ≤ xs.length ∧ s10 = .int .i64 i ∧ Aside (i + 1 = (k : Int)) ∧ s9 = .bool r ∧ Aside (r = decRL (xs.drop k) o x m)) (fun _ s10 => (intOf s10 + 1).toNat)
  case atStart => exact ⟨xs.length, _, _, Nat.le_refl _, rfl, (show _ + 1 = _ by omega), rfl, (show _ = _ by rw [List.drop_length]; unfold decRL; rw [Bool.eq_iff_iff]; simp)⟩
  case round =>
    obtain ⟨k, i, r, hk, rfl, HI, rfl, R⟩ := hrel
    cases k with
    | zero =>
      obtain rfl : i = -1 := by have := HI.out; omega
      have R2 : Aside (r = decRL xs o x m) := R
      clear R HI hx
      go_wp2
      all_goals
        go_ret
        refine ⟨ret_bool ?_, rfl⟩
        unfold decR
        rw [← R2.out]
        first | (simp [*]; done) | (simp [*]; rfl)
    | succ j =>
      obtain rfl : i = (j : Int) := by have := HI.out; omega
      have hlt : j < xs.length := by omega
      have hltz : (j : Int) < (xs.length : Int) := by omega
      obtain ⟨b, of, rfl, hb, hj⟩ := hx (by omega)
      obtain ⟨g0, g1, g2⟩ := hj j hlt
      have hd := decRL_drop hlt o x m
      rw [← R.out] at hd
      clear hx hj HI R
      generalize xs.getD j E0 = y at g0 g1 g2 hd
      obtain ⟨u, a, d⟩ := y
      have HD := Lib.hid hd
      clear hd
      go_wp2
      all_goals
        go_round
        case rel =>
          refine ⟨j, _, _, by omega, rfl, (show _ + 1 = _ by omega), rfl, (show _ = _ from ?_)⟩
          rw [HD.out]
          unfold stepR
          simp_all
        case measure => first | (simp [intOf]; done) | (simp [intOf]; omega)

end Go.Proofs.Ytbmcfhojhngpkaa
