/- The program's package memfs, its trees, requests and replies in plain words and in memory: contracts of its functions.
   Condition: as each theorem states; this text: PathLeaves. -/
import Derived.Test.YtmgamdjinhlgoaaGreatDoorProg
import Derived.Test.YtmgamdjinhlgoaaGreatDoorMb1
import Derived.Shelf.GgClosure.GivesRunes

set_option linter.all false

/- Contracts of the leaves that packages path and the reference share: the name test on a rune, on a byte string, and the faults. No condition beyond those that each theorem states. -/
namespace Go.Proofs.YtmgamdjinhlgoaaGreatDoor
open Go.RowKit


/-- A rune that may occur in a name. -/
def nameR (r : Int) : Bool := decide ((97 ≤ r ∧ r ≤ 122) ∨ (65 ≤ r ∧ r ≤ 90) ∨ (48 ≤ r ∧ r ≤ 57) ∨ r = 46 ∨ r = 95 ∨ r = 45)
theorem nameR_yes {r : Int} (h : (97 ≤ r ∧ r ≤ 122) ∨ (65 ≤ r ∧ r ≤ 90) ∨ (48 ≤ r ∧ r ≤ 57) ∨ r = 46 ∨ r = 95 ∨ r = 45) : true = nameR r := (decide_eq_true h).symm
theorem nameR_of {b : Bool} {r : Int} (h : b = true ↔ ((97 ≤ r ∧ r ≤ 122) ∨ (65 ≤ r ∧ r ≤ 90) ∨ (48 ≤ r ∧ r ≤ 57) ∨ r = 46 ∨ r = 95 ∨ r = 45)) : b = nameR r := by
  unfold nameR; rw [Bool.eq_iff_iff]; simpa using h

set_option maxHeartbeats 400000 in
theorem isNameRune_any (r : Int) (w : World) :
    Calls Tryz.prog 122 #[.int .i32 r] w fun e w' => e = .returned (.bool (nameR r)) ∧ w = w' := by
  go_enter Tryz.func122, Tryz.ntmps122
  go_wp2
  all_goals
    go_ret
    refine ⟨ret_bool (nameR_of ?_), rfl⟩
    simp
    try omega

set_option maxHeartbeats 400000 in
theorem isName1_any (r : Int) (w : World) :
    Calls Tryz.prog 121 #[.int .i32 r] w fun e w' => e = .returned (.bool (!nameR r)) ∧ w = w' := by
  go_enter Tryz.func121, Tryz.ntmps121
  go_wp2_with (go_at_call 122; refine (isNameRune_any _ _).mono ?_; rintro e w' ⟨rfl, rfl⟩)
  go_ret
  exact ⟨rfl, rfl⟩

/-- The shape of a name: 1 to 12 bytes, neither "." nor "..". -/
def vshape (s : ByteArray) : Bool := decide (1 ≤ s.size ∧ s.size ≤ 12 ∧ ¬ s.toList = [46] ∧ ¬ s.toList = [46, 46])
/-- Each byte may occur in a name. -/
def vbytes (s : ByteArray) : Bool := decide (∀ j (h : j < s.size), nameR (s[j].toNat : Int) = true)
def vname (s : ByteArray) : Bool := vshape s && vbytes s
theorem vshape_iff {s : ByteArray} : vshape s = true ↔ (1 ≤ s.size ∧ s.size ≤ 12 ∧ ¬ s.toList = [46] ∧ ¬ s.toList = [46, 46]) := by unfold vshape; simp
theorem vname_bad {s : ByteArray} (h : vshape s = false) : false = vname s := by unfold vname; rw [h]; rfl
theorem vname_byte {s : ByteArray} (k : Nat) (hk : k < s.size) (h : nameR (s[k].toNat : Int) = false) : false = vname s := by
  have : vbytes s = false := by
    unfold vbytes; rw [decide_eq_false_iff_not]; intro hh; rw [hh k hk] at h; cases h
  unfold vname; rw [this, Bool.and_false]
theorem vname_good {s : ByteArray} (h : vshape s = true) (hb : ∀ j (h : j < s.size), nameR (s[j].toNat : Int) = true) : true = vname s := by
  unfold vname; rw [h, Bool.true_and]; unfold vbytes; rw [decide_eq_true hb]
end Go.Proofs.YtmgamdjinhlgoaaGreatDoor
