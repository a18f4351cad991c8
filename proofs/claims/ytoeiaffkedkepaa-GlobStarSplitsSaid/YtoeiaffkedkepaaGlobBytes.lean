/- Patterns of bytes: what they match, a star between two patterns, and patterns made of the text itself. Plain facts on lists. -/
import Derived.Test.YtoeiaffkedkepaaGlobPlain
namespace Go.Proofs.Ytoeiaffkedkepaa
open Go.RowKit

theorem lm_append {α β : Type} {star : α → Bool} {fit : α → β → Bool} : ∀ (as cs : List α) (bs : List β),
    lm star fit (as ++ cs) bs = true ↔ ∃ i, i ≤ bs.length ∧ lm star fit as (bs.take i) = true ∧ lm star fit cs (bs.drop i) = true
  | [], cs, bs => by
    constructor
    · intro h; exact ⟨0, Nat.zero_le _, by simp [lm], by simpa using h⟩
    · rintro ⟨i, hi, h1, h2⟩
      rw [lm_nil, List.take_eq_nil_iff] at h1
      rcases h1 with rfl | h1
      · simpa using h2
      · subst h1; simpa using h2
  | a :: as, cs, bs => by
    rw [List.cons_append]
    cases ha : star a with
    | true =>
      rw [lm_star ha]
      constructor
      · rintro ⟨k, hk, h⟩
        obtain ⟨i, hi, h1, h2⟩ := (lm_append as cs _).1 h
        rw [List.length_drop] at hi
        refine ⟨k + i, by omega, (lm_star ha).2 ⟨k, by rw [List.length_take]; omega, ?_⟩, by rwa [List.drop_drop] at h2⟩
        rwa [List.drop_take, show k + i - k = i from by omega]
      · rintro ⟨i, hi, h1, h2⟩
        obtain ⟨k, hk, h3⟩ := (lm_star ha).1 h1
        rw [List.length_take] at hk
        rw [List.drop_take] at h3
        refine ⟨k, by omega, (lm_append as cs _).2 ⟨i - k, by rw [List.length_drop]; omega, h3, ?_⟩⟩
        rwa [List.drop_drop, show k + (i - k) = i from by omega]
    | false =>
      cases bs with
      | nil =>
        rw [lm_none ha]
        constructor
        · intro h; cases h
        · rintro ⟨i, _, h1, _⟩; rw [List.take_nil, lm_none ha] at h1; cases h1
      | cons b r =>
        rw [lm_one ha, Bool.and_eq_true]
        constructor
        · rintro ⟨hf, h⟩
          obtain ⟨i, hi, h1, h2⟩ := (lm_append as cs _).1 h
          exact ⟨i + 1, by simpa using hi, by rw [List.take_succ_cons, lm_one ha, hf, h1]; rfl, by simpa using h2⟩
        · rintro ⟨i, hi, h1, h2⟩
          cases i with
          | zero => rw [List.take_zero, lm_none ha] at h1; cases h1
          | succ i =>
            rw [List.take_succ_cons, lm_one ha, Bool.and_eq_true] at h1
            exact ⟨h1.1, (lm_append as cs _).2 ⟨i, by simpa using hi, h1.2, by simpa using h2⟩⟩

theorem lm_between {α β : Type} {star : α → Bool} {fit : α → β → Bool} {as cs : List α} {st : α} (hs : star st = true) (bs : List β) :
    lm star fit (as ++ st :: cs) bs = true ↔ ∃ i j, i ≤ j ∧ j ≤ bs.length ∧ lm star fit as (bs.take i) = true ∧ lm star fit cs (bs.drop j) = true := by
  rw [lm_append]
  constructor
  · rintro ⟨i, hi, h1, h2⟩
    obtain ⟨k, hk, h3⟩ := (lm_star hs).1 h2
    rw [List.length_drop] at hk
    exact ⟨i, i + k, by omega, by omega, h1, by rwa [List.drop_drop] at h3⟩
  · rintro ⟨i, j, hij, hj, h1, h2⟩
    exact ⟨i, by omega, h1, (lm_star hs).2 ⟨j - i, by rw [List.length_drop]; omega, by rwa [List.drop_drop, show i + (j - i) = j from by omega]⟩⟩

/-- Two stars in a row are one. -/
theorem lm_stars {α β : Type} {star : α → Bool} {fit : α → β → Bool} {a b : α} {as : List α} (ha : star a = true) (hb : star b = true) (bs : List β) :
    lm star fit (a :: b :: as) bs = lm star fit (b :: as) bs := by
  rw [Bool.eq_iff_iff, lm_star ha]
  constructor
  · rintro ⟨k, hk, h⟩
    obtain ⟨k2, hk2, h2⟩ := (lm_star hb).1 h
    rw [List.length_drop] at hk2
    exact (lm_star hb).2 ⟨k + k2, by omega, by rwa [List.drop_drop] at h2⟩
  · intro h; exact ⟨0, Nat.zero_le _, by simpa using h⟩

def starB (c : UInt8) : Bool := c == 42
def fitB (p c : UInt8) : Bool := p == 63 || p == c
/-- The bytes of a pattern match the bytes of a text. -/
def lmB (p s : List UInt8) : Bool := lm starB fitB p s
theorem lmB_self : ∀ l : List UInt8, lmB l l = true
  | [] => rfl
  | c :: r => by
    have ih := lmB_self r
    unfold lmB at *
    cases hc : starB c with
    | true => rw [lm_star hc]; exact ⟨1, by simp, by simpa using ih⟩
    | false => rw [lm_one hc, ih]; simp [fitB]
theorem lmB_mark (l : List UInt8) (i : Nat) (h : i < l.length) : lmB (l.take i ++ 63 :: l.drop (i + 1)) l = true := by
  refine (lm_append _ _ _).2 ⟨i, by omega, lmB_self _, ?_⟩
  rw [drop_at h, lm_one (by rfl)]
  have := lmB_self (l.drop (i + 1))
  unfold lmB at this
  rw [this]; simp [fitB]
theorem lmB_tail (l : List UInt8) (i : Nat) (h : i < l.length) : lmB (l.take i ++ [42]) l = true := by
  refine (lm_append _ _ _).2 ⟨i, by omega, lmB_self _, ?_⟩
  rw [lm_star (by rfl)]
  exact ⟨(l.drop i).length, Nat.le_refl _, by rw [List.drop_length]; rfl⟩

theorem eq_u8 (x : UInt8) (c : Nat) (hc : c < 256) : ((x.toNat : Int) == (c : Int)) = (x == UInt8.ofNat c) := by
  have h0 : (UInt8.ofNat c).toNat = c := by rw [UInt8.toNat_ofNat']; exact Nat.mod_eq_of_lt hc
  rw [Bool.eq_iff_iff, beq_iff_eq, beq_iff_eq]
  constructor
  · intro h
    apply UInt8.toNat_inj.1
    rw [h0]; omega
  · rintro rfl
    rw [h0]
theorem eq_u8s (x y : UInt8) : ((x.toNat : Int) == (y.toNat : Int)) = (x == y) := by
  rw [Bool.eq_iff_iff, beq_iff_eq, beq_iff_eq]
  constructor
  · intro h; exact UInt8.toNat_inj.1 (by omega)
  · rintro rfl; rfl

/-- A pattern matches a text. -/
def mat (p s : ByteArray) : Bool := lmB p.data.toList s.data.toList

end Go.Proofs.Ytoeiaffkedkepaa
