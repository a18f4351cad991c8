/- The fault of a tree, in plain words: what is reached, what lies too far, how much lies below. No program. -/
import Derived.Test.YtndhhofidkaomaaFsFacts

set_option linter.all false
namespace Go.Proofs.Ytndhhofidkaomaa
open Go.RowKit

def hasL (L : List Vis) (n : Nat) : Bool := L.any fun p => decide (p.2 = n)
def tooFar (xs : List ByteArray) : Bool := decide ((joinF xs).1 ≠ 0)
def farL (L : List Vis) (n : Nat) : Bool := L.any fun p => decide (p.2 = n) && tooFar p.1
theorem hasL_snoc (L : List Vis) (p : Vis) (n : Nat) : hasL (L ++ [p]) n = (hasL L n || decide (p.2 = n)) := by unfold hasL; simp
theorem farL_snoc (L : List Vis) (p : Vis) (n : Nat) : farL (L ++ [p]) n = (farL L n || (decide (p.2 = n) && tooFar p.1)) := by unfold farL; simp
theorem any_perm {α : Type} {p : α → Bool} {L M : List α} (h : L.Perm M) : L.any p = M.any p := by
  rw [Bool.eq_iff_iff, List.any_eq_true, List.any_eq_true]
  constructor
  · rintro ⟨x, hx, hp⟩; exact ⟨x, h.mem_iff.1 hx, hp⟩
  · rintro ⟨x, hx, hp⟩; exact ⟨x, h.mem_iff.2 hx, hp⟩
theorem hasL_perm {L M : List Vis} (h : L.Perm M) (n : Nat) : hasL L n = hasL M n := any_perm h
theorem farL_perm {L M : List Vis} (h : L.Perm M) (n : Nat) : farL L n = farL M n := any_perm h
theorem hasL_iff {L : List Vis} {n : Nat} : hasL L n = true ↔ ∃ xs, (xs, n) ∈ L := by
  unfold hasL
  rw [List.any_eq_true]
  constructor
  · rintro ⟨⟨xs, m⟩, hx, hm⟩; simp at hm; subst hm; exact ⟨xs, hx⟩
  · rintro ⟨xs, hx⟩; exact ⟨_, hx, by simp⟩

/-- The size of the distinct files of a list of visits. -/
def usg (t : Tr) (L : List Vis) : Nat := ((List.range t.length).map fun i => if hasL L i = true then (nod t i).dl else 0).sum
theorem usg_perm (t : Tr) {L M : List Vis} (h : L.Perm M) : usg t L = usg t M := by
  unfold usg
  simp only [hasL_perm h]
theorem usg_nil (t : Tr) : usg t [] = 0 := by
  have := sum_le_mul (l := (List.range t.length).map fun i => if hasL [] i = true then (nod t i).dl else 0) (m := 0) (by
    intro x hx
    obtain ⟨i, _, rfl⟩ := List.mem_map.1 hx
    simp [hasL])
  unfold usg
  omega
theorem sum_map_add (f g : Nat → Nat) : ∀ l : List Nat, (l.map fun i => f i + g i).sum = (l.map f).sum + (l.map g).sum
  | [] => rfl
  | a :: l => by simp only [List.map_cons, List.sum_cons, sum_map_add f g l]; omega
theorem sum_one_at (d : Nat → Nat) (n : Nat) : ∀ m, ((List.range m).map fun i => if n = i then d i else 0).sum = if n < m then d n else 0
  | 0 => by simp
  | m + 1 => by
    rw [List.range_succ, List.map_append, List.sum_append, sum_one_at d n m]
    simp only [List.map_cons, List.map_nil, List.sum_cons, List.sum_nil, Nat.add_zero]
    by_cases h : n = m
    · subst h; simp
    · rw [if_neg h]
      by_cases h2 : n < m
      · rw [if_pos h2, if_pos (by omega)]; omega
      · rw [if_neg h2, if_neg (by omega)]
theorem usg_snoc {t : Tr} {L : List Vis} {p : Vis} (hp : p.2 < t.length) : usg t (L ++ [p]) = if hasL L p.2 = true then usg t L else usg t L + (nod t p.2).dl := by
  unfold usg
  simp only [hasL_snoc]
  by_cases h : hasL L p.2 = true
  · rw [if_pos h]
    congr 1
    refine List.map_congr_left fun i _ => ?_
    by_cases e : p.2 = i
    · subst e; simp [h]
    · simp [e]
  · rw [if_neg h]
    have h2 : ((List.range t.length).map fun i => if (hasL L i || decide (p.2 = i)) = true then (nod t i).dl else 0) = (List.range t.length).map fun i => (if hasL L i = true then (nod t i).dl else 0) + (if p.2 = i then (nod t i).dl else 0) := by
      refine List.map_congr_left fun i _ => ?_
      by_cases e : p.2 = i
      · subst e; simp [h]
      · simp [e]
    rw [h2, sum_map_add, sum_one_at, if_pos hp]
theorem usg_le {t : Tr} (h : Ok1 t) (L : List Vis) : usg t L ≤ 8000 := by
  unfold usg
  have := sum_le_mul (l := (List.range t.length).map fun i => if hasL L i = true then (nod t i).dl else 0) (m := 200) (by
    intro x hx
    obtain ⟨i, _, rfl⟩ := List.mem_map.1 hx
    have := (h.fine i).dl
    split <;> omega)
  simp only [List.length_map, List.length_range] at this
  have := h.le
  omega

def codeP (t : Tr) (n : Nat) : Int :=
  if (nod t n).k ≠ 0 ∧ hasL (visits t 0) n = false then 11 else if farL (visits t 0) n = true then 10 else 0
def codeQ (t : Tr) (n : Nat) : Int := if (nod t n).q ≠ 0 ∧ (nod t n).q < (usg t (visits t n) : Int) then 14 else 0
/-- The four checks. -/
def codeK (t : Tr) (k n : Nat) : Int := match k with
  | 0 => codeN t (nod t n)
  | 1 => codeLk t n
  | 2 => codeP t n
  | _ => codeQ t n
/-- The first inode that a check finds a fault of. -/
def chk (t : Tr) (k : Nat) : Int × Int := firstNZ (codeK t k) t.length 0
def scanK (t : Tr) : Nat → Nat → Int × Int
  | 0, _ => (0, 0)
  | m + 1, k => if (chk t k).1 = 0 then scanK t m (k + 1) else chk t k
def valT (t : Tr) : Int × Int :=
  if t.length = 0 then (6, 0) else if 40 < t.length then (2, 0) else if (nod t 0).k ≠ 1 then (8, 0) else scanK t 4 0
/-- The checks ahead of number k find nothing. -/
def Pass (t : Tr) (k : Nat) : Prop := ∀ j, j < k → ∀ n, n < t.length → codeK t j n = 0
structure Head (t : Tr) : Prop where
  ne : 0 < t.length
  le : t.length ≤ 40
  root : (nod t 0).k = 1
theorem chk_hit {t : Tr} {k i : Nat} {c : Int} (hi : i < t.length) (hc : codeK t k i = c) (hn : ¬ c = 0) (hA : ∀ j, j < i → codeK t k j = 0) : chk t k = (c, (i : Int)) := by
  unfold chk
  rw [firstNZ_hit (codeK t k) t.length 0 i hi (by rw [Nat.zero_add, hc]; exact hn) (by intro j hj; rw [Nat.zero_add]; exact hA j hj)]
  rw [Nat.zero_add, hc]
theorem chk_miss {t : Tr} {k : Nat} (hA : ∀ j, j < t.length → codeK t k j = 0) : chk t k = (0, 0) := by
  unfold chk
  exact firstNZ_miss _ _ _ (by intro j hj; rw [Nat.zero_add]; exact hA j hj)
theorem scanK_hit (t : Tr) : ∀ (m k d : Nat), d < m → (∀ j, j < d → (chk t (k + j)).1 = 0) → (chk t (k + d)).1 ≠ 0 → scanK t m k = chk t (k + d)
  | 0, _, _, h, _, _ => absurd h (by omega)
  | m + 1, k, 0, _, _, h => by unfold scanK; rw [if_neg (by simpa using h)]; simp
  | m + 1, k, d + 1, hd, hA, h => by
    have h0 := hA 0 (by omega)
    unfold scanK
    rw [if_pos (by simpa using h0), scanK_hit t m (k + 1) d (by omega) (fun j hj => by have := hA (j + 1) (by omega); rwa [show k + (j + 1) = k + 1 + j by omega] at this) (by rwa [show k + (d + 1) = k + 1 + d by omega] at h), show k + (d + 1) = k + 1 + d by omega]
theorem scanK_miss (t : Tr) : ∀ (m k : Nat), (∀ j, j < m → (chk t (k + j)).1 = 0) → scanK t m k = (0, 0)
  | 0, _, _ => rfl
  | m + 1, k, hA => by
    have h0 := hA 0 (by omega)
    unfold scanK
    rw [if_pos (by simpa using h0), scanK_miss t m (k + 1) (fun j hj => by have := hA (j + 1) (by omega); rwa [show k + (j + 1) = k + 1 + j by omega] at this)]
theorem scanK_zero (t : Tr) : ∀ (m k : Nat), (scanK t m k).1 = 0 → ∀ j, j < m → (chk t (k + j)).1 = 0
  | 0, _, _, j, hj => absurd hj (by omega)
  | m + 1, k, h, j, hj => by
    unfold scanK at h
    split at h
    · rename_i h0
      cases j with
      | zero => simpa using h0
      | succ j => have := scanK_zero t m (k + 1) h j (by omega); rwa [show k + (j + 1) = k + 1 + j by omega]
    · rename_i h0; exact absurd h h0
theorem Pass.chk0 {t : Tr} {k : Nat} (h : Pass t k) : ∀ j, j < k → (chk t j).1 = 0 := fun j hj => by rw [chk_miss (h j hj)]
theorem Pass.succ {t : Tr} {k : Nat} (h : Pass t k) (h2 : ∀ n, n < t.length → codeK t k n = 0) : Pass t (k + 1) := fun j hj n hn => by
  by_cases e : j = k
  · subst e; exact h2 n hn
  · exact h j (by omega) n hn
theorem valT_hit {t : Tr} (h : Head t) {k i : Nat} {c : Int} (hk : k < 4) (hp : Pass t k) (hi : i < t.length) (hc : codeK t k i = c) (hn : ¬ c = 0) (hA : ∀ j, j < i → codeK t k j = 0) : valT t = (c, (i : Int)) := by
  have := h.ne; have := h.le
  have e := chk_hit hi hc hn hA
  unfold valT
  rw [if_neg (by omega), if_neg (by omega), if_neg (by rw [h.root]; simp), scanK_hit t 4 0 k hk (fun j hj => by rw [Nat.zero_add]; exact hp.chk0 j hj) (by rw [Nat.zero_add, e]; exact hn), Nat.zero_add, e]
theorem valT_miss {t : Tr} (h : Head t) (hp : Pass t 4) : valT t = (0, 0) := by
  have := h.ne; have := h.le
  unfold valT
  rw [if_neg (by omega), if_neg (by omega), if_neg (by rw [h.root]; simp), scanK_miss t 4 0 (fun j hj => by rw [Nat.zero_add]; exact hp.chk0 j hj)]
theorem valT_none {t : Tr} (h : t.length = 0) : valT t = (6, 0) := by unfold valT; rw [if_pos h]
theorem valT_many {t : Tr} (h : 40 < t.length) : valT t = (2, 0) := by unfold valT; rw [if_neg (by omega), if_pos h]
theorem valT_root {t : Tr} (h : ¬ t.length = 0) (h2 : ¬ 40 < t.length) (h3 : (nod t 0).k ≠ 1) : valT t = (8, 0) := by unfold valT; rw [if_neg h, if_neg h2, if_pos h3]
theorem firstNZ_one (f : Nat → Int) (m i : Nat) : (firstNZ f m i).1 = 0 → firstNZ f m i = (0, 0) := by
  intro h
  exact firstNZ_miss f m i (firstNZ_zero f m i h)
theorem valT_ok {t : Tr} (h : (valT t).1 = 0) : Head t ∧ Pass t 4 := by
  unfold valT at h
  split at h
  · cases h
  · rename_i h0
    split at h
    · cases h
    · rename_i h1
      split at h
      · cases h
      · rename_i h2
        refine ⟨⟨by omega, by omega, by simpa using h2⟩, fun j hj n hn => ?_⟩
        have := scanK_zero t 4 0 h j hj
        rw [Nat.zero_add] at this
        have := firstNZ_zero (codeK t j) t.length 0 this n hn
        rwa [Nat.zero_add] at this
theorem valT_zero {t : Tr} (h : (valT t).1 = 0) : valT t = (0, 0) := valT_miss (valT_ok h).1 (valT_ok h).2

/-! ## What has passed -/
theorem Pass.ok1 {t : Tr} (h : Head t) (p : Pass t 1) : Ok1 t := ⟨h.ne, h.le, h.root, fun n hn => p 0 (by omega) n hn⟩
theorem Pass.ok2 {t : Tr} (h : Head t) (p : Pass t 2) : Ok2 t := ⟨Pass.ok1 h fun j hj => p j (by omega), fun n hn => p 1 (by omega) n hn⟩
theorem Pass.mono {t : Tr} {k j : Nat} (p : Pass t k) (h : j ≤ k) : Pass t j := fun i hi => p i (by omega)
theorem Pass.from_ {t : Tr} (h : Head t) (p : Pass t 3) {n : Nat} (hn : n < t.length) (hk : (nod t n).k ≠ 0) : From t n ∧ ∃ zs, Rch t 0 zs n := by
  have o2 := Pass.ok2 h (p.mono (by omega))
  have hc : codeP t n = 0 := p 2 (by omega) n hn
  unfold codeP at hc
  split at hc
  · cases hc
  · rename_i h1
    have : hasL (visits t 0) n = true := by
      cases hh : hasL (visits t 0) n with
      | true => rfl
      | false => exact absurd ⟨hk, hh⟩ h1
    obtain ⟨xs, hx⟩ := hasL_iff.1 this
    have := (mem_visits o2.fin).1 hx
    exact ⟨o2.from_ this, xs, this⟩
/-- A file or directory that is reached. -/
theorem tooFar_iff {xs : List ByteArray} (hv : ∀ x ∈ xs, vname x = true) : tooFar xs = (decide (8 < xs.length) || decide (100 < (pstr xs).length)) := by
  have hb : firstBad xs = xs.length := by
    unfold firstBad
    rw [List.findIdx_eq_length]
    intro x hx; simp [hv x hx]
  have hc : compFault xs = if 8 < xs.length then (10, 0) else (0, 0) := by unfold compFault; rw [hb, if_neg (by omega)]
  unfold tooFar joinF
  rw [hc]
  by_cases h8 : 8 < xs.length
  · simp [h8]
  · simp only [if_neg h8, if_true]
    by_cases h1 : 100 < (pstr xs).length
    · simp [h1]
    · simp [h1, h8]

end Go.Proofs.Ytndhhofidkaomaa
