/- Matching a list of items against a list of elements, some of which are stars: the plain function, its laws, and the invariant of a search that goes back to the last star alone. Plain facts on lists; no condition beyond those that each theorem states. -/
import Derived.Test.YtoeiaffkedkepaaKit
namespace Go.Proofs.Ytoeiaffkedkepaa
open Go.RowKit

/-- The elements match all the items. -/
def lm {α β : Type} (star : α → Bool) (fit : α → β → Bool) : List α → List β → Bool
  | [], bs => bs.isEmpty
  | a :: as, bs => if star a then (List.range (bs.length + 1)).any (fun k => lm star fit as (bs.drop k)) else
    match bs with
    | [] => false
    | b :: r => fit a b && lm star fit as r

section
variable {α β : Type} {star : α → Bool} {fit : α → β → Bool}

theorem lm_nil {bs : List β} : lm star fit [] bs = true ↔ bs = [] := by
  show bs.isEmpty = true ↔ _; exact List.isEmpty_iff
theorem lm_star {a : α} {as : List α} {bs : List β} (h : star a = true) : lm star fit (a :: as) bs = true ↔ ∃ k, k ≤ bs.length ∧ lm star fit as (bs.drop k) = true := by
  rw [lm.eq_def]; simp only [if_pos h]; rw [List.any_eq_true]
  constructor
  · rintro ⟨k, hk, hh⟩
    exact ⟨k, by have := List.mem_range.1 hk; omega, hh⟩
  · rintro ⟨k, hk, hh⟩
    exact ⟨k, List.mem_range.2 (by omega), hh⟩
theorem lm_none {a : α} {as : List α} (h : star a = false) : lm star fit (a :: as) [] = false := by
  rw [lm.eq_def]; simp [h]
theorem lm_one {a : α} {as : List α} {b : β} {r : List β} (h : star a = false) : lm star fit (a :: as) (b :: r) = (fit a b && lm star fit as r) := by
  conv => lhs; rw [lm.eq_def]
  simp [h]

theorem lm_seg : ∀ (d : Nat) (as : List α) (bs : List β), d ≤ as.length → (∀ x e, x < d → as[x]? = some e → star e = false) → lm star fit as bs = true →
    d ≤ bs.length ∧ lm star fit (as.drop d) (bs.drop d) = true
  | 0, _, _, _, _, h => ⟨Nat.zero_le _, h⟩
  | d + 1, [], _, hd, _, _ => by simp at hd
  | d + 1, a :: as, bs, hd, hs, h => by
    have ha : star a = false := hs 0 a (by omega) rfl
    cases bs with
    | nil => rw [lm_none ha] at h; cases h
    | cons b r =>
      rw [lm_one ha, Bool.and_eq_true] at h
      have := lm_seg d as r (by simpa using hd) (fun x e hx he => hs (x + 1) e (by omega) (by simpa using he)) h.2
      exact ⟨by have := this.1; simp; omega, by simpa using this.2⟩

/-- Where the search stands: at element i and item j; o: the element behind the last star, and where that star ends. -/
structure GI (star : α → Bool) (fit : α → β → Bool) (P : List α) (L : List β) (i j : Nat) (o : Option Nat) (se : Nat) : Prop where
  hi : i ≤ P.length
  hj : j ≤ L.length
  seg : ∀ a, o = some a → a ≤ i ∧ se + (i - a) = j ∧ ∀ x e, a ≤ x → x < i → P[x]? = some e → star e = false
  eqv : lm star fit P L = true ↔ (lm star fit (P.drop i) (L.drop j) = true ∨ ∃ a, o = some a ∧ ∃ k, se < k ∧ k ≤ L.length ∧ lm star fit (P.drop a) (L.drop k) = true)

theorem GI.start (P : List α) (L : List β) : GI star fit P L 0 0 none 0 :=
  ⟨Nat.zero_le _, Nat.zero_le _, fun _ h => (by cases h), ⟨fun h => .inl (by simpa using h), fun h => h.elim (fun h => by simpa using h) (fun ⟨_, h, _⟩ => by cases h)⟩⟩

theorem drop_at {γ : Type} {P : List γ} {i : Nat} (h : i < P.length) : P.drop i = P[i] :: P.drop (i + 1) := List.drop_eq_getElem_cons h

theorem GI.atStar {P : List α} {L : List β} {i j : Nat} {o : Option Nat} {se : Nat} (g : GI star fit P L i j o se) (h : i < P.length) (hs : star P[i] = true) :
    GI star fit P L (i + 1) j (some (i + 1)) j := by
  refine ⟨h, g.hj, fun a ha => ?_, ?_⟩
  · cases ha; exact ⟨Nat.le_refl _, by omega, fun x e h1 h2 => by omega⟩
  have hst : lm star fit (P.drop i) (L.drop j) = true ↔ ∃ k, k ≤ (L.drop j).length ∧ lm star fit (P.drop (i + 1)) ((L.drop j).drop k) = true := by
    rw [drop_at h]; exact lm_star hs
  have hst2 : lm star fit (P.drop i) (L.drop j) = true ↔ (lm star fit (P.drop (i + 1)) (L.drop j) = true ∨ ∃ a, some (i + 1) = some a ∧ ∃ k, j < k ∧ k ≤ L.length ∧ lm star fit (P.drop a) (L.drop k) = true) := by
    rw [hst]
    constructor
    · rintro ⟨k, hk, hh⟩
      rw [List.drop_drop] at hh
      rw [List.length_drop] at hk
      have hj := g.hj
      cases k with
      | zero => exact .inl (by simpa using hh)
      | succ k => exact .inr ⟨_, rfl, j + (k + 1), by omega, by omega, hh⟩
    · rintro (hh | ⟨a, ha, k, hk, hk2, hh⟩)
      · exact ⟨0, Nat.zero_le _, by simpa using hh⟩
      · cases ha
        exact ⟨k - j, by rw [List.length_drop]; omega, by rw [List.drop_drop, show j + (k - j) = k from by omega]; exact hh⟩
  rw [g.eqv, ← hst2]
  constructor
  · rintro (hh | ⟨a, ha, k, hk, hk2, hh⟩)
    · exact hh
    · obtain ⟨s1, s2, s3⟩ := g.seg a ha
      have hsg := lm_seg (star := star) (fit := fit) (i - a) (P.drop a) (L.drop k) (by rw [List.length_drop]; omega) (fun x e hx he => s3 (a + x) e (by omega) (by omega) (by rwa [List.getElem?_drop] at he)) hh
      rw [List.drop_drop, List.drop_drop, List.length_drop, show a + (i - a) = i from by omega] at hsg
      have h1 := hsg.1
      have hsg2 := hsg.2
      rw [drop_at h, lm_star hs] at hsg2
      obtain ⟨k2, hk3, hh2⟩ := hsg2
      rw [List.drop_drop] at hh2
      rw [List.length_drop] at hk3
      rw [drop_at h, lm_star hs]
      refine ⟨k + (i - a) + k2 - j, ?_, ?_⟩
      · rw [List.length_drop]; omega
      · rw [List.drop_drop, show j + (k + (i - a) + k2 - j) = k + (i - a) + k2 from by omega]; exact hh2
  · exact .inl

theorem GI.atFit {P : List α} {L : List β} {i j : Nat} {o : Option Nat} {se : Nat} (g : GI star fit P L i j o se) (h : i < P.length) (h2 : j < L.length) (hs : star P[i] = false) (hf : fit P[i] L[j] = true) :
    GI star fit P L (i + 1) (j + 1) o se := by
  refine ⟨h, h2, fun a ha => ?_, ?_⟩
  · obtain ⟨s1, s2, s3⟩ := g.seg a ha
    refine ⟨by omega, by omega, fun x e h1 h3 he => ?_⟩
    by_cases e1 : x = i
    · subst e1; rw [List.getElem?_eq_getElem h] at he; cases he; exact hs
    · exact s3 x e h1 (by omega) he
  · rw [g.eqv, drop_at h, drop_at h2, lm_one hs, hf, Bool.true_and]

/-- At element i and item j nothing fits. -/
theorem GI.stuck {P : List α} {L : List β} {i j : Nat} (h2 : j < L.length) (hn : ∀ h : i < P.length, star P[i] = false ∧ fit P[i] L[j] = false) : lm star fit (P.drop i) (L.drop j) = false := by
  by_cases h : i < P.length
  · rw [drop_at h, drop_at h2, lm_one (hn h).1, (hn h).2, Bool.false_and]
  · rw [List.drop_eq_nil_of_le (by omega), drop_at h2]; rfl

theorem GI.back {P : List α} {L : List β} {i j a : Nat} {se : Nat} (g : GI star fit P L i j (some a) se) (h2 : j < L.length) (hn : ∀ h : i < P.length, star P[i] = false ∧ fit P[i] L[j] = false) :
    GI star fit P L a (se + 1) (some a) (se + 1) := by
  obtain ⟨s1, s2, s3⟩ := g.seg a rfl
  have hi := g.hi
  refine ⟨by omega, by omega, fun b hb => ?_, ?_⟩
  · cases hb; exact ⟨Nat.le_refl _, by omega, fun x e h1 h2 => by omega⟩
  · rw [g.eqv, GI.stuck h2 hn]
    constructor
    · rintro (hh | ⟨b, hb, k, hk, hk2, hh⟩)
      · cases hh
      · cases hb
        by_cases e : k = se + 1
        · subst e; exact .inl hh
        · exact .inr ⟨a, rfl, k, by omega, hk2, hh⟩
    · rintro (hh | ⟨b, hb, k, hk, hk2, hh⟩)
      · exact .inr ⟨a, rfl, se + 1, by omega, by omega, hh⟩
      · cases hb; exact .inr ⟨a, rfl, k, by omega, hk2, hh⟩

theorem GI.fail {P : List α} {L : List β} {i j : Nat} {se : Nat} (g : GI star fit P L i j none se) (h2 : j < L.length) (hn : ∀ h : i < P.length, star P[i] = false ∧ fit P[i] L[j] = false) :
    lm star fit P L = false := by
  rw [Bool.eq_false_iff]; intro h
  rcases g.eqv.1 h with h | ⟨_, h, _⟩
  · rw [GI.stuck h2 hn] at h; cases h
  · cases h

theorem GI.end_ {P : List α} {L : List β} {i j : Nat} {o : Option Nat} {se : Nat} (g : GI star fit P L i j o se) (h : ¬ j < L.length) : lm star fit P L = lm star fit (P.drop i) [] := by
  have hj := g.hj
  have hi := g.hi
  have e : L.drop j = [] := List.drop_eq_nil_of_le (by omega)
  rw [Bool.eq_iff_iff, g.eqv, e]
  constructor
  · rintro (hh | ⟨a, ha, k, hk, hk2, hh⟩)
    · exact hh
    · obtain ⟨s1, s2, s3⟩ := g.seg a ha
      have hsg := lm_seg (star := star) (fit := fit) (i - a) (P.drop a) (L.drop k) (by rw [List.length_drop]; omega) (fun x e hx he => s3 (a + x) e (by omega) (by omega) (by rwa [List.getElem?_drop] at he)) hh
      rw [List.length_drop] at hsg
      have := hsg.1
      omega
  · exact .inl

theorem tail_star {P : List α} {i : Nat} (h : i < P.length) (hs : star P[i] = true) : lm star fit (P.drop i) [] = lm star fit (P.drop (i + 1)) [] := by
  rw [Bool.eq_iff_iff, drop_at h, lm_star hs]
  constructor
  · rintro ⟨k, _, hh⟩; simpa using hh
  · intro hh; exact ⟨0, Nat.zero_le _, by simpa using hh⟩
theorem tail_stop {P : List α} {i : Nat} (h : i < P.length) (hs : star P[i] = false) : lm star fit (P.drop i) [] = false := by
  rw [drop_at h, lm_none hs]
theorem tail_end {P : List α} {i : Nat} (h : ¬ i < P.length) : lm star fit (P.drop i) [] = true := by
  rw [List.drop_eq_nil_of_le (by omega), lm]; rfl

end

/-- What bounds the rounds of the search. -/
def behind : Option Nat → Nat
  | none => 0
  | some a => a + 1
def mu (m n i : Nat) (o : Option Nat) (se : Nat) : Nat := ((m + 1 - behind o) * (n + 1) + (n - se)) * (m + 1) + (m - i)
theorem mu_fit {m n i : Nat} {o : Option Nat} {se : Nat} (h : i < m) : mu m n (i + 1) o se < mu m n i o se := by
  unfold mu; omega
theorem mul_down {S S' m x y : Nat} (h : S' < S) (hx : x ≤ m) : S' * (m + 1) + x < S * (m + 1) + y := by
  have h1 : (S' + 1) * (m + 1) ≤ S * (m + 1) := Nat.mul_le_mul_right _ h
  rw [Nat.add_mul] at h1
  omega
theorem mu_back {m n i a : Nat} {se : Nat} (h : se < n) : mu m n a (some a) (se + 1) < mu m n i (some a) se := by
  unfold mu; exact mul_down (by omega) (by omega)
theorem mu_star {m n i j : Nat} {o : Option Nat} {se : Nat} (h : i < m) (ho : ∀ a, o = some a → a ≤ i) : mu m n (i + 1) (some (i + 1)) j < mu m n i o se := by
  unfold mu
  refine mul_down ?_ (by omega)
  have : m + 1 - behind (some (i + 1)) < m + 1 - behind o := by
    cases o with
    | none => simp only [behind]; omega
    | some a => have := ho a rfl; simp only [behind]; omega
  exact mul_down this (by omega)

end Go.Proofs.Ytoeiaffkedkepaa
