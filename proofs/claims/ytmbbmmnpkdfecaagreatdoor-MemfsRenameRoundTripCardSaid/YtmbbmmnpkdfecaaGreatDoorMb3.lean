/- Package memfs and what it calls, at this seat's translation.
   Condition: as each theorem states; this text: PathLeaves. -/
import Derived.Test.YtmbbmmnpkdfecaaGreatDoorProg
import Derived.Test.YtmbbmmnpkdfecaaGreatDoorMb1
import Derived.Shelf.GgClosure.GivesRunes

set_option linter.all false

/- Contracts of the leaves that packages path and the reference share: the name test on a rune, on a byte string, and the faults. No condition beyond those that each theorem states. -/

set_option linter.all false
namespace Go.Proofs.YtmbbmmnpkdfecaaGreatDoor
open Go.RowKit


/-- A rune that may occur in a name. -/
def nameR (r : Int) : Bool := decide ((97 ≤ r ∧ r ≤ 122) ∨ (65 ≤ r ∧ r ≤ 90) ∨ (48 ≤ r ∧ r ≤ 57) ∨ r = 46 ∨ r = 95 ∨ r = 45)
theorem nameR_yes {r : Int} (h : (97 ≤ r ∧ r ≤ 122) ∨ (65 ≤ r ∧ r ≤ 90) ∨ (48 ≤ r ∧ r ≤ 57) ∨ r = 46 ∨ r = 95 ∨ r = 45) : true = nameR r := (decide_eq_true h).symm
theorem nameR_of {b : Bool} {r : Int} (h : b = true ↔ ((97 ≤ r ∧ r ≤ 122) ∨ (65 ≤ r ∧ r ≤ 90) ∨ (48 ≤ r ∧ r ≤ 57) ∨ r = 46 ∨ r = 95 ∨ r = 45)) : b = nameR r := by
  unfold nameR; rw [Bool.eq_iff_iff]; simpa using h

set_option maxHeartbeats 400000 in
theorem isNameRune_any (r : Int) (w : World) :
    Calls Tryz.prog 174 #[.int .i32 r] w fun e w' => e = .returned (.bool (nameR r)) ∧ w = w' := by
  go_enter Tryz.func174, Tryz.ntmps174
  go_wp2
  all_goals
    go_ret
    refine ⟨ret_bool (nameR_of ?_), rfl⟩
    simp
    try omega

set_option maxHeartbeats 400000 in
theorem isName1_any (r : Int) (w : World) :
    Calls Tryz.prog 173 #[.int .i32 r] w fun e w' => e = .returned (.bool (!nameR r)) ∧ w = w' := by
  go_enter Tryz.func173, Tryz.ntmps173
  go_wp2_with (go_at_call 174; refine (isNameRune_any _ _).mono ?_; rintro e w' ⟨rfl, rfl⟩)
  go_ret
  exact ⟨rfl, rfl⟩

/-- The shape of a name: 1 to 12 bytes, neither "." nor "..". -/
def vshape (s : ByteArray) : Bool := decide (1 ≤ s.size ∧ s.size ≤ 12 ∧ ¬ s.toList = [46] ∧ ¬ s.toList = [46, 46])
/-- Each byte may occur in a name. -/
def vbytes (s : ByteArray) : Bool := decide (∀ j (h : j < s.size), nameR (s[j].toNat : Int) = true)
def vname (s : ByteArray) : Bool := vshape s && vbytes s
theorem vshape_iff {s : ByteArray} : vshape s = true ↔ (1 ≤ s.size ∧ s.size ≤ 12 ∧ ¬ s.toList = [46] ∧ ¬ s.toList = [46, 46]) := by unfold vshape; simp
theorem vname_bad {s : ByteArray} (h : vshape s = false) : false = vname s := by unfold vname; rw [h]; rfl
theorem vname_byte {s : ByteArray} (k : Nat) (hk : k < s.size) (h : nameR (s[k].toNat : Int) = false) : false = vname s := by
  have : vbytes s = false := by
    unfold vbytes; rw [decide_eq_false_iff_not]; intro hh; rw [hh k hk] at h; cases h
  unfold vname; rw [this, Bool.and_false]
theorem vname_good {s : ByteArray} (h : vshape s = true) (hb : ∀ j (h : j < s.size), nameR (s[j].toNat : Int) = true) : true = vname s := by
  unfold vname; rw [h, Bool.true_and]; unfold vbytes; rw [decide_eq_true hb]
set_option maxHeartbeats 400000 in
theorem validName_any (s : ByteArray) (w : World) (hs : s.size ≤ maxLen) :
    Calls Tryz.prog 136 #[.string s] w fun e w' => e = .returned (.bool (vname s)) ∧ w = w' := by
  unfold maxLen at hs
  cases hsh : vshape s with
  | false =>
    have HV := Lib.hid hsh
    clear hsh
    go_enter Tryz.func136, Tryz.ntmps136
    go_wp2
    all_goals first | (go_ret; exact ⟨ret_bool (vname_bad HV.out), rfl⟩) | (exfalso; have h := HV.out; simp [vshape] at h; simp_all; omega)
  | true =>
    have HV := Lib.hid hsh
    obtain ⟨h1, h2, h3, h4⟩ := vshape_iff.1 hsh
    have h3' : (s.toList == [46]) = false := by simpa using h3
    have h4' : (s.toList == [46, 46]) = false := by simpa using h4
    clear hsh h3 h4
    go_enter Tryz.func136, Tryz.ntmps136
    go_wp2
    go_loop [3] (fun i => ∃ k : Nat, k ≤ s.size ∧ i = .int .i64 k ∧ Aside (∀ j (h : j < s.size), j < k → nameR (s[j].toNat : Int) = true)) (fun i => s.size - (intOf i).toNat)
    case atStart => exact ⟨0, Nat.zero_le _, rfl, fun j _ hj => absurd hj (Nat.not_lt_zero _)⟩
    case round =>
      obtain ⟨k, hk, rfl, HA⟩ := hrel
      by_cases hlt : k < s.size
      · go_wp2
        all_goals first
          | (go_ret; refine ⟨ret_bool (vname_byte k hlt ?_), rfl⟩; clear HA HV; unfold nameR; rw [decide_eq_false_iff_not]; generalize (s[k].toNat : Int) = c at *; simp at * <;> omega)
          | (go_round
             case rel =>
               refine ⟨k + 1, by omega, by go_num, fun j hj hjk => ?_⟩
               by_cases e : j = k
               · subst e
                 clear HA HV; unfold nameR; rw [decide_eq_true_iff]; generalize (s[j].toNat : Int) = c at *; simp at * <;> omega
               · exact HA.out j hj (by omega)
             case measure => simp [intOf]; omega)
      · go_wp2
        go_ret
        exact ⟨ret_bool (vname_good HV.out fun j hj => HA.out j hj (by omega)), rfl⟩

end Go.Proofs.YtmbbmmnpkdfecaaGreatDoor
