/- The program's package memfs, its trees, requests and replies in plain words and in memory: contracts of its functions.
   Condition: as each theorem states; this text: AclUserFault. -/
import Derived.Test.YtmgamdjinhlgoaaGreatDoorMb1

set_option linter.all false

/- The law's userFault at every list and any two numbers; the reference's Allowed agrees with acl.Allowed on valid lists. Conditions: the slice's cells lie in memory as they read. -/
namespace Go.Proofs.YtmgamdjinhlgoaaGreatDoor
open Go.RowKit

theorem usrF_val {xs : List Ent} {o x c i : Int} (h : valF xs = (c, i)) (hc : ¬ c = 0) : usrF xs o x = (c, i) := by unfold usrF; rw [h, if_neg (fun k => hc k.1)]
theorem usrF_bad {xs : List Ent} {o x : Int} (h : valF xs = (0, 0)) (hb : o < 0 ∨ 7 < o ∨ x < 0 ∨ 7 < x) : usrF xs o x = (3, -1) := by
  unfold usrF; rw [h, if_pos ⟨rfl, by unfold usr; rw [Bool.and_eq_false_iff, decide_eq_false_iff_not, decide_eq_false_iff_not]; omega⟩]
theorem usrF_ok {xs : List Ent} {o x : Int} (h : valF xs = (0, 0)) (hb : ¬ (o < 0 ∨ 7 < o ∨ x < 0 ∨ 7 < x)) : usrF xs o x = (0, 0) := by
  unfold usrF; rw [h, if_neg (fun k => by have := k.2; unfold usr at this; rw [Bool.and_eq_false_iff, decide_eq_false_iff_not, decide_eq_false_iff_not] at this; omega)]

/-! Plain facts: on a valid list and a permission the reference's answer is acl.Allowed's. -/
theorem bit_or : ∀ a d : Fin 16, ∀ k : Fin 4, bits .and .i64 ((a.val : Nat) : Int) ((d.val : Nat) : Int) = 0 →
    ((bits .and .i64 (bits .or .i64 ((a.val : Nat) : Int) ((d.val : Nat) : Int)) ((2 ^ k.val : Nat) : Int) != 0) = ((bits .and .i64 ((a.val : Nat) : Int) ((2 ^ k.val : Nat) : Int) != 0) || (bits .and .i64 ((d.val : Nat) : Int) ((2 ^ k.val : Nat) : Int) != 0)) ∧
     ((bits .and .i64 ((a.val : Nat) : Int) ((2 ^ k.val : Nat) : Int) != 0) && (bits .and .i64 ((d.val : Nat) : Int) ((2 ^ k.val : Nat) : Int) != 0)) = false) := by
  decide +kernel
theorem prm_pow {m : Int} (h : prm m = true) : ∃ k : Fin 4, m = ((2 ^ k.val : Nat) : Int) := by
  unfold prm at h
  rw [decide_eq_true_iff] at h
  rcases h with rfl | rfl | rfl | rfl
  · exact ⟨0, rfl⟩
  · exact ⟨1, rfl⟩
  · exact ⟨2, rfl⟩
  · exact ⟨3, rfl⟩

/-- A valid entry. -/
structure Ok (e : Ent) : Prop where
  u0 : -1 ≤ e.u
  u7 : e.u ≤ 7
  a0 : 0 ≤ e.a
  a15 : e.a ≤ 15
  d0 : 0 ≤ e.d
  d15 : e.d ≤ 15
  dis : bits .and .i64 e.a e.d = 0
  some_ : e.a + e.d ≠ 0
theorem ok_of {e : Ent} (hf : e.fits) (h : codeE e = 0) : Ok e := by
  rw [code_eq hf] at h
  unfold codeR at h
  by_cases h1 : e.u < -1 ∨ 7 < e.u
  · rw [if_pos h1] at h; cases h
  · rw [if_neg h1] at h
    by_cases h2 : e.a < 0 ∨ 15 < e.a ∨ e.d < 0 ∨ 15 < e.d ∨ bits .and .i64 e.a e.d ≠ 0 ∨ e.a + e.d = 0
    · rw [if_pos h2] at h; cases h
    · simp only [not_or, Decidable.not_not] at h1 h2
      obtain ⟨k1, k2, k3, k4, k5, k6⟩ := h2
      exact ⟨by omega, by omega, by omega, by omega, by omega, by omega, k5, k6⟩
theorem ok_code {e : Ent} (hf : e.fits) (h : Ok e) : codeE e = 0 := by
  rw [code_eq hf]
  obtain ⟨h1, h2, h3, h4, h5, h6, h7, h8⟩ := h
  exact codeR_ok (by simp only [not_or]; omega) (by simp only [not_or]; exact ⟨by omega, by omega, by omega, by omega, by simpa using h7, h8⟩)
theorem scan_ok : ∀ (l : List Ent) (i : Nat), (scanF l i).1 = 0 → ∀ e ∈ l, codeE e = 0
  | [], _, _ => by simp
  | e :: l, i, h => by
    unfold scanF at h
    by_cases h0 : codeE e = 0
    · rw [if_pos h0] at h
      intro e' he
      rcases List.mem_cons.1 he with rfl | he
      · exact h0
      · exact scan_ok l _ h e' he
    · rw [if_neg h0] at h; exact absurd h h0
theorem valF_ok {xs : List Ent} (h : valF xs = (0, 0)) : xs.length ≤ 6 ∧ ∀ e ∈ xs, codeE e = 0 := by
  unfold valF at h
  by_cases h6 : 6 < xs.length
  · rw [if_pos h6] at h; cases h
  · rw [if_neg h6] at h; exact ⟨by omega, scan_ok xs 0 (by rw [h])⟩
theorem valF_good {xs : List Ent} (h : xs.length ≤ 6) (hA : ∀ e ∈ xs, codeE e = 0) : valF xs = (0, 0) := by
  unfold valF
  rw [if_neg (by omega), scan_miss xs 0 fun j hj => by rw [entD hj]; exact hA _ (List.getElem_mem hj)]
theorem bit_self {m : Int} (hm : prm m = true) : bits .and .i64 m m ≠ 0 ∧ bits .and .i64 m 0 = 0 ∧ bits .and .i64 0 m = 0 ∧ bits .and .i64 (bits .or .i64 m 0) m ≠ 0 ∧ bits .and .i64 (bits .or .i64 0 m) m ≠ 0 ∧ 0 < m ∧ m ≤ 15 := by
  have key : ∀ k : Fin 4, bits .and .i64 ((2 ^ k.val : Nat) : Int) ((2 ^ k.val : Nat) : Int) ≠ 0 ∧ bits .and .i64 ((2 ^ k.val : Nat) : Int) 0 = 0 ∧ bits .and .i64 0 ((2 ^ k.val : Nat) : Int) = 0 ∧ bits .and .i64 (bits .or .i64 ((2 ^ k.val : Nat) : Int) 0) ((2 ^ k.val : Nat) : Int) ≠ 0 ∧ bits .and .i64 (bits .or .i64 0 ((2 ^ k.val : Nat) : Int)) ((2 ^ k.val : Nat) : Int) ≠ 0 ∧ 0 < ((2 ^ k.val : Nat) : Int) ∧ ((2 ^ k.val : Nat) : Int) ≤ 15 := by decide +kernel
  obtain ⟨k, rfl⟩ := prm_pow hm
  exact key k

theorem ok_bit {e : Ent} (h : Ok e) {m : Int} (hm : prm m = true) :
    (bits .and .i64 (bits .or .i64 e.a e.d) m != 0) = ((bits .and .i64 e.a m != 0) || (bits .and .i64 e.d m != 0)) ∧ ((bits .and .i64 e.a m != 0) && (bits .and .i64 e.d m != 0)) = false := by
  obtain ⟨k, rfl⟩ := prm_pow hm
  obtain ⟨_, _, h3, h4, h5, h6, h7, _⟩ := h
  obtain ⟨u, a, d⟩ := e
  obtain ⟨A, rfl⟩ := Int.eq_ofNat_of_zero_le h3
  obtain ⟨D, rfl⟩ := Int.eq_ofNat_of_zero_le h5
  simp only at h4 h6 h7
  exact bit_or ⟨A, by omega⟩ ⟨D, by omega⟩ k h7
theorem decRL_eq {o x m : Int} (hm : prm m = true) : ∀ {xs : List Ent}, (∀ e ∈ xs, Ok e) → decRL xs o x m = decL xs o x m
  | [], _ => rfl
  | e :: l, h => by
    have ih := decRL_eq (o := o) (x := x) hm (fun e' he => h e' (List.mem_cons_of_mem e he))
    obtain ⟨h1, h2⟩ := ok_bit (h e (by simp)) hm
    unfold decRL decL
    rw [ih]
    unfold stepR app
    by_cases hc : e.u ≠ x ∧ e.u ≠ -1
    · rw [if_pos hc, if_neg (by unfold cov; rw [decide_eq_false (by omega)]; simp)]
    · rw [if_neg hc]
      have hcov : cov e x = true := by unfold cov; rw [decide_eq_true_iff]; omega
      rw [hcov, h1]
      by_cases hd : bits .and .i64 e.d m = 0
      · by_cases ha : bits .and .i64 e.a m = 0
        · simp [ha, hd]
        · simp [ha, hd]
      · have ha : bits .and .i64 e.a m = 0 := by
          simp at h2
          by_cases ha : bits .and .i64 e.a m = 0
          · exact ha
          · exact absurd (h2 ha) hd
        simp [ha, hd]
theorem decR_eq {o x m : Int} (hm : prm m = true) {xs : List Ent} (h : ∀ e ∈ xs, Ok e) : decR xs o x m = dec xs o x m := by
  unfold decR dec
  rw [decRL_eq hm h]
  by_cases hx : x = 0
  · simp [hx]
  · simp [hx]

end Go.Proofs.YtmgamdjinhlgoaaGreatDoor
