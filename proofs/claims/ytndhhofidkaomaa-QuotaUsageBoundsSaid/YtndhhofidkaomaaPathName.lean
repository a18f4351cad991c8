/- The name test of package path agrees with the byte-wise test, at every string of at most the model's longest length; the search for the first bad component, at every slice of strings. -/
import Derived.Test.YtndhhofidkaomaaPathLeaves
import Derived.Test.YtndhhofidkaomaaShelf
import Derived.Lib.DecodeN
import Derived.Lib.Strings
import Derived.Lib.SlBy

set_option linter.all false
namespace Go.Proofs.Ytndhhofidkaomaa
open Go.RowKit

theorem decodeN_ascii {n b0 b1 b2 b3 : Nat} (h : b0 < 128) : Lib.decodeN n b0 b1 b2 b3 = (b0, 1) := by
  unfold Lib.decodeN; rw [if_pos h]
theorem decodeN_high {n b0 b1 b2 b3 : Nat} (h : 128 ≤ b0) : 128 ≤ (Lib.decodeN n b0 b1 b2 b3).1 := by
  unfold Lib.decodeN
  rw [if_neg (by omega)]
  repeat' split
  all_goals simp
  all_goals omega
theorem nameR_high {r : Int} (h : 128 ≤ r) : nameR r = false := by
  unfold nameR; rw [decide_eq_false_iff_not]; omega
theorem get_bang (s : ByteArray) (i : Nat) (h : i < s.size) : s.get! i = s[i] := by
  show s.data[i]! = s.data[i]'h
  exact getElem!_pos s.data i h

/-- The first rune that is not allowed exists exactly where some byte is not allowed. -/
theorem idx_bytes (s : ByteArray) : ∀ (f pos : Nat), s.size - pos ≤ f →
    (0 ≤ Lib.idxFuncFrom (fun r => !nameR (r : Int)) true s f pos ↔ ∃ j, pos ≤ j ∧ ∃ h : j < s.size, nameR (s[j].toNat : Int) = false)
  | 0, pos, hf => by
    rw [Lib.idxFuncFrom_end _ _ _ _ _ (by omega)]
    constructor
    · intro h; omega
    · rintro ⟨j, hj, h, _⟩; omega
  | f + 1, pos, hf => by
    by_cases hp : pos < s.size
    · unfold Lib.idxFuncFrom
      rw [if_pos hp, Lib.decode_at, get_bang s pos hp]
      by_cases hb : s[pos].toNat < 128
      · rw [decodeN_ascii hb]
        cases hn : nameR (s[pos].toNat : Int) with
        | true =>
          rw [if_neg (by simp)]
          rw [idx_bytes s f (pos + 1) (by omega)]
          constructor
          · rintro ⟨j, hj, h⟩; exact ⟨j, by omega, h⟩
          · rintro ⟨j, hj, h, hx⟩
            by_cases e : j = pos
            · subst e; rw [hn] at hx; cases hx
            · exact ⟨j, by omega, h, hx⟩
        | false =>
          rw [if_pos (by simp)]
          exact ⟨fun _ => ⟨pos, Nat.le_refl _, hp, hn⟩, fun _ => by omega⟩
      · have hh := decodeN_high (n := s.size - pos) (b0 := s[pos].toNat) (b1 := (s.get! (pos + 1)).toNat) (b2 := (s.get! (pos + 2)).toNat) (b3 := (s.get! (pos + 3)).toNat) (by omega)
        rw [if_pos (by simp [nameR_high (r := ((Lib.decodeN (s.size - pos) s[pos].toNat (s.get! (pos + 1)).toNat (s.get! (pos + 2)).toNat (s.get! (pos + 3)).toNat).1 : Int)) (by omega)])]
        exact ⟨fun _ => ⟨pos, Nat.le_refl _, hp, nameR_high (by omega)⟩, fun _ => by omega⟩
    · rw [Lib.idxFuncFrom_end _ _ _ _ _ hp]
      constructor
      · intro h; omega
      · rintro ⟨j, hj, h, _⟩; omega
theorem idx_vbytes (s : ByteArray) : decide (0 ≤ Lib.idxFunc (fun r => !nameR (r : Int)) true s) = !vbytes s := by
  have h := idx_bytes s s.size 0 (by omega)
  unfold Lib.idxFunc
  rw [Bool.eq_iff_iff, decide_eq_true_iff, h]
  unfold vbytes
  simp
theorem predName (w : World) : PredAt Try.prog 73 #[] encR (fun r => !nameR (r : Int)) w := fun W r _ => by
  refine (isName1_any r W).mono ?_
  rintro e w' ⟨rfl, rfl⟩
  exact ⟨rfl, 0, rfl⟩
theorem eg_name1 : ∀ args w, (callFunc 73 args).run Try.prog w = .ok (.enter 73 args) w := enters_of Try.func73 (by kernel_rfl) rfl
theorem vshape_empty {s : ByteArray} (h : s.toList = []) : vshape s = false := by
  have : s.size = 0 := by
    rw [Lib.toList_data] at h
    have := congrArg List.length h
    simpa using this
  unfold vshape; rw [decide_eq_false_iff_not]; omega

theorem size_pos {s : ByteArray} (h : ¬ s.toList = []) : 1 ≤ s.size := by
  rw [Lib.toList_data] at h
  have := List.length_pos_iff.2 h
  have h2 : 0 < s.size := by simpa using this
  omega

set_option maxHeartbeats 400000 in
theorem isName_any (s : ByteArray) (w : World) (hs : s.size ≤ maxLen) :
    Calls Try.prog 66 #[.string s] w fun e w' => e = .returned (.bool (vname s)) ∧ Below w.heap.size w w' := by
  unfold maxLen at hs
  have hcon := Try.strings_ContainsFunc 73 #[] eg_name1 (fun r => !nameR (r : Int)) s w (predName w)
  rw [idx_vbytes] at hcon
  have HC := Lib.hid hcon
  clear hcon
  cases hsh : vshape s with
  | false =>
    have HV := Lib.hid hsh
    clear hsh
    go_enter Try.func66, Try.ntmps66
    go_wp2
    all_goals first | (go_ret; exact ⟨ret_bool (vname_bad HV.out), Below.refl _ _⟩) | (exfalso; have h := HV.out; unfold vshape at h; rw [decide_eq_false_iff_not] at h; refine h ⟨size_pos ‹¬ s.toList = []›, by omega, by assumption, by simp_all⟩)
  | true =>
    have HV := Lib.hid hsh
    obtain ⟨h1, h2, h3, h4⟩ := vshape_iff.1 hsh
    have h3' : (s.toList == [46]) = false := by simpa using h3
    have h4' : (s.toList == [46, 46]) = false := by simpa using h4
    have h5' : s.toList.isEmpty = false := by
      cases h : s.toList with
      | nil => rw [vshape_empty h] at hsh; cases hsh
      | cons => rfl
    clear hsh h3 h4
    go_enter Try.func66, Try.ntmps66
    go_wp2_with (go_at_call 72; refine HC.out.mono ?_; rintro e w' ⟨rfl, hb⟩)
    go_ret
    refine ⟨ret_bool ?_, hb⟩
    unfold vname; rw [HV.out]; simp

set_option maxHeartbeats 400000 in
theorem comp1_any (s : ByteArray) (w : World) (hs : s.size ≤ maxLen) :
    Calls Try.prog 65 #[.string s] w fun e w' => e = .returned (.bool (!vname s)) ∧ Below w.heap.size w w' := by
  go_enter Try.func65, Try.ntmps65
  go_wp2_with (go_at_call 66; refine (isName_any _ _ hs).mono ?_; rintro e w' ⟨rfl, hb⟩)
  go_ret
  exact ⟨rfl, hb⟩

end Go.Proofs.Ytndhhofidkaomaa
