/- Contracts of the leaves: present, cmp.Compare at strings, find's own function. Conditions: the strings are of at most the model's longest length. -/
import Derived.Test.YteomlacohddecaaGreatAttrCode

set_option linter.all false
namespace Go.Proofs.YteomlacohddecaaGreat
open Go.RowKit

/-- What present returns. -/
def presA (a : Attr) : List Attr := if a.v = ByteArray.empty then [] else [a]
theorem presA_none {a : Attr} (h : a.v = ByteArray.empty) : presA a = [] := by unfold presA; rw [if_pos h]
theorem presA_one {a : Attr} (h : a.v ≠ ByteArray.empty) : presA a = [a] := by unfold presA; rw [if_neg h]
def PresPost (x y : ByteArray) (w : World) (e : Ending) (w' : World) : Prop :=
  ∃ v, e = .returned v ∧ Ats w' w'.heap.size v (presA ⟨x, y⟩) ∧ Below w.heap.size w w'
/-- What cmp.Compare says of two strings. -/
def cmpS (a b : ByteArray) : Int := if ltS a b = true then -1 else if ltS b a = true then 1 else 0
theorem cmpS_lt {a b : ByteArray} : cmpS a b < 0 ↔ ltS a b = true := by
  unfold cmpS; split
  · rename_i h; simp [h]
  · rename_i h; split
    · simp [h]
    · simp [h]
theorem cmpS_eq {a b : ByteArray} : cmpS a b = 0 ↔ a = b := by
  unfold cmpS; split
  · rename_i h; exact ⟨fun h' => (by cases h'), fun e => absurd e (ltS_ne h)⟩
  · rename_i h; split
    · rename_i h2; exact ⟨fun h' => (by cases h'), fun e => absurd e.symm (ltS_ne h2)⟩
    · rename_i h2; exact ⟨fun _ => ltS_eq (by simpa using h) (by simpa using h2), fun _ => rfl⟩
set_option maxHeartbeats 400000 in
theorem nanS_any (a : ByteArray) (w : World) :
    Calls Tryz.prog 28 #[.string a] w fun e w' => e = .returned (.bool false) ∧ w' = w := by
  have hb : (a.toList == a.toList) = true := by simp
  go_enter Tryz.func28, Tryz.ntmps28
  go_wp2
  all_goals
    go_ret
    exact ⟨by first | rfl | simp, rfl⟩
set_option maxHeartbeats 400000 in
theorem compareS_any (a b : ByteArray) (w : World) :
    Calls Tryz.prog 14 #[.string a, .string b] w fun e w' => e = .returned (.int .i64 (cmpS a b)) ∧ w' = w := by
  have HF := Lib.hid (show cmpS a b = if ltS a b = true then -1 else if ltS b a = true then 1 else 0 from rfl)
  generalize cmpS a b = q at *
  cases h1 : ltS a b with
  | true =>
    have hb : Op.bytesLess a.toList b.toList = true := h1
    rw [h1, if_pos rfl] at HF
    clear h1
    go_enter Tryz.func14, Tryz.ntmps14
    go_wp2_with fail
    refine (nanS_any _ _).mono ?_
    rintro e w' ⟨rfl, rfl⟩
    go_wp2_with fail
    refine (nanS_any _ _).mono ?_
    rintro e w' ⟨rfl, rfl⟩
    go_wp2_with fail
    go_ret
    exact ⟨ret_int HF.out.symm, rfl⟩
  | false =>
    have hb : Op.bytesLess a.toList b.toList = false := h1
    rw [h1, if_neg (by simp)] at HF
    cases h2 : ltS b a with
    | true =>
      have hn : (a.toList == b.toList) = false := by rw [beq_str]; simpa using (ltS_ne h2).symm
      rw [h2, if_pos rfl] at HF
      clear h1 h2
      go_enter Tryz.func14, Tryz.ntmps14
      go_wp2_with fail
      refine (nanS_any _ _).mono ?_
      rintro e w' ⟨rfl, rfl⟩
      go_wp2_with fail
      refine (nanS_any _ _).mono ?_
      rintro e w' ⟨rfl, rfl⟩
      go_wp2_with fail
      go_ret
      exact ⟨ret_int HF.out.symm, rfl⟩
    | false =>
      have hn : (a.toList == b.toList) = true := by rw [beq_str]; simpa using ltS_eq h1 h2
      rw [h2, if_neg (by simp)] at HF
      clear h1 h2
      go_enter Tryz.func14, Tryz.ntmps14
      go_wp2_with fail
      refine (nanS_any _ _).mono ?_
      rintro e w' ⟨rfl, rfl⟩
      go_wp2_with fail
      refine (nanS_any _ _).mono ?_
      rintro e w' ⟨rfl, rfl⟩
      go_wp2_with fail
      go_ret
      exact ⟨ret_int HF.out.symm, rfl⟩
end Go.Proofs.YteomlacohddecaaGreat
