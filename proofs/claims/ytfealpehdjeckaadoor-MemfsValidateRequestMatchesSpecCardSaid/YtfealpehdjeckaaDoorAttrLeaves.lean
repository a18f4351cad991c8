/- Contracts of the leaves: present, cmp.Compare at strings, find's own function. Conditions: the strings are of at most the model's longest length. -/
import Derived.Test.YtfealpehdjeckaaDoorAttrCode
namespace Go.Proofs.YtfealpehdjeckaaDoor
open Go.RowKit

/-- What present returns. -/
def presA (a : Attr) : List Attr := if a.v = ByteArray.empty then [] else [a]
theorem presA_none {a : Attr} (h : a.v = ByteArray.empty) : presA a = [] := by unfold presA; rw [if_pos h]
theorem presA_one {a : Attr} (h : a.v ≠ ByteArray.empty) : presA a = [a] := by unfold presA; rw [if_neg h]
def PresPost (x y : ByteArray) (w : World) (e : Ending) (w' : World) : Prop :=
  ∃ v, e = .returned v ∧ Ats w' w'.heap.size v (presA ⟨x, y⟩) ∧ Below w.heap.size w w'
set_option maxHeartbeats 400000 in
theorem present_any (x y : ByteArray) (w : World) (hf : (⟨x, y⟩ : Attr).fits) :
    Calls Tryd.prog 27 #[.agg #[.string x, .string y]] w (PresPost x y w) := by
  have HF := Lib.hid hf
  clear hf
  by_cases h : y = ByteArray.empty
  · have hb : (y.toList.isEmpty) = true := by rw [isEmpty_str]; simpa using h
    have HP := Lib.hid (show presA ⟨x, y⟩ = [] from presA_none h)
    clear h
    go_enter Tryd.func27, Tryd.ntmps27
    go_wp2
    go_ret
    exact ⟨_, rfl, by rw [HP.out]; exact Ats.none_ _ _, (Below.refl _ _).alloc (Nat.le_refl _) _⟩
  · have hb : (y.toList.isEmpty) = false := by rw [isEmpty_str]; simpa using h
    have HP := Lib.hid (show presA ⟨x, y⟩ = [⟨x, y⟩] from presA_one h)
    clear h
    go_enter Tryd.func27, Tryd.ntmps27
    go_wp2
    go_ret
    refine ⟨_, rfl, ?_, ((Below.refl _ _).alloc (Nat.le_refl _) _).alloc (by simp) _⟩
    rw [HP.out]
    exact (ats_one (w.alloc (.cells #[.string x, .string y] 25)) _ (by simp) ⟨x, y⟩ HF.out _).more (by simp)

/-- What cmp.Compare says of two strings. -/
def cmpS (a b : ByteArray) : Int := if ltS a b = true then -1 else if ltS b a = true then 1 else 0
theorem cmpS_lt {a b : ByteArray} : cmpS a b < 0 ↔ ltS a b = true := by
  unfold cmpS; split
  · rename_i h; simp [h]
  · rename_i h; split
    · simp [h]
    · simp [h]
theorem cmpS_eq {a b : ByteArray} : cmpS a b = 0 ↔ a = b := by
  unfold cmpS; split
  · rename_i h; exact ⟨fun h' => (by cases h'), fun e => absurd e (ltS_ne h)⟩
  · rename_i h; split
    · rename_i h2; exact ⟨fun h' => (by cases h'), fun e => absurd e.symm (ltS_ne h2)⟩
    · rename_i h2; exact ⟨fun _ => ltS_eq (by simpa using h) (by simpa using h2), fun _ => rfl⟩
set_option maxHeartbeats 400000 in
theorem nanS_any (a : ByteArray) (w : World) :
    Calls Tryd.prog 45 #[.string a] w fun e w' => e = .returned (.bool false) ∧ w' = w := by
  have hb : (a.toList == a.toList) = true := by simp
  go_enter Tryd.func45, Tryd.ntmps45
  go_wp2
  all_goals
    go_ret
    exact ⟨by first | rfl | simp, rfl⟩
set_option maxHeartbeats 400000 in
theorem compareS_any (a b : ByteArray) (w : World) :
    Calls Tryd.prog 35 #[.string a, .string b] w fun e w' => e = .returned (.int .i64 (cmpS a b)) ∧ w' = w := by
  have HF := Lib.hid (show cmpS a b = if ltS a b = true then -1 else if ltS b a = true then 1 else 0 from rfl)
  generalize cmpS a b = q at *
  cases h1 : ltS a b with
  | true =>
    have hb : Op.bytesLess a.toList b.toList = true := h1
    rw [h1, if_pos rfl] at HF
    clear h1
    go_enter Tryd.func35, Tryd.ntmps35
    go_wp2_with fail
    refine (nanS_any _ _).mono ?_
    rintro e w' ⟨rfl, rfl⟩
    go_wp2_with fail
    refine (nanS_any _ _).mono ?_
    rintro e w' ⟨rfl, rfl⟩
    go_wp2_with fail
    go_ret
    exact ⟨ret_int HF.out.symm, rfl⟩
  | false =>
    have hb : Op.bytesLess a.toList b.toList = false := h1
    rw [h1, if_neg (by simp)] at HF
    cases h2 : ltS b a with
    | true =>
      have hn : (a.toList == b.toList) = false := by rw [beq_str]; simpa using (ltS_ne h2).symm
      rw [h2, if_pos rfl] at HF
      clear h1 h2
      go_enter Tryd.func35, Tryd.ntmps35
      go_wp2_with fail
      refine (nanS_any _ _).mono ?_
      rintro e w' ⟨rfl, rfl⟩
      go_wp2_with fail
      refine (nanS_any _ _).mono ?_
      rintro e w' ⟨rfl, rfl⟩
      go_wp2_with fail
      go_ret
      exact ⟨ret_int HF.out.symm, rfl⟩
    | false =>
      have hn : (a.toList == b.toList) = true := by rw [beq_str]; simpa using ltS_eq h1 h2
      rw [h2, if_neg (by simp)] at HF
      clear h1 h2
      go_enter Tryd.func35, Tryd.ntmps35
      go_wp2_with fail
      refine (nanS_any _ _).mono ?_
      rintro e w' ⟨rfl, rfl⟩
      go_wp2_with fail
      refine (nanS_any _ _).mono ?_
      rintro e w' ⟨rfl, rfl⟩
      go_wp2_with fail
      go_ret
      exact ⟨ret_int HF.out.symm, rfl⟩
set_option maxHeartbeats 400000 in
theorem find1_any (x y b : ByteArray) (w : World) :
    Calls Tryd.prog 34 #[.agg #[.string x, .string y], .string b] w fun e w' => e = .returned (.int .i64 (cmpS x b)) ∧ Below w.heap.size w w' := by
  go_enter Tryd.func34, Tryd.ntmps34
  go_wp2_with fail
  refine (compareS_any _ _ _).mono ?_
  rintro e w' ⟨rfl, rfl⟩
  go_wp2
  go_ret
  exact ⟨rfl, (Below.refl _ _).alloc (Nat.le_refl _) _⟩
theorem eg_find1 : ∀ args w, (callFunc 34 args).run Tryd.prog w = .ok (.enter 34 args) w := enters_of Tryd.func34 (by kernel_rfl) rfl

end Go.Proofs.YtfealpehdjeckaaDoor
