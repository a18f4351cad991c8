/- Quotas in plain words: who owns how much, how much the chosen inodes hold. No program. -/
import Derived.Test.YtndhhofidkaomaaFsSpec

set_option linter.all false
namespace Go.Proofs.Ytndhhofidkaomaa
open Go.RowKit

theorem Ok1.own {t : Tr} (h : Ok1 t) {n : Nat} (hn : n < t.length) : ∃ u : Nat, (nod t n).o = (u : Int) ∧ u < 8 := by
  have hc := h.code n hn
  have key : 0 ≤ (nod t n).o ∧ (nod t n).o ≤ 7 := by
    unfold codeN at hc
    split at hc
    · unfold codeF at hc
      split at hc
      · rename_i h0; omega
      · cases hc
    · split at hc
      · have h1 := (or4_zero hc).1
        unfold codeC at h1
        split at h1
        · cases h1
        · rename_i h2; omega
      · cases hc
  obtain ⟨u, hu⟩ := Int.eq_ofNat_of_zero_le key.1
  exact ⟨u, hu, by omega⟩

/-- How much user u owns of the first k inodes. -/
def ownTo (t : Tr) (k u : Nat) : Nat := ((List.range k).map fun i => if (nod t i).o = (u : Int) then (nod t i).dl else 0).sum
theorem ownTo_zero (t : Tr) (u : Nat) : ownTo t 0 u = 0 := by unfold ownTo; simp
theorem ownTo_succ (t : Tr) (k u : Nat) : ownTo t (k + 1) u = ownTo t k u + if (nod t k).o = (u : Int) then (nod t k).dl else 0 := by
  unfold ownTo; rw [List.range_succ, List.map_append, List.sum_append]; simp
theorem ownTo_le {t : Tr} (h : Ok1 t) (u : Nat) : ∀ k, ownTo t k u ≤ k * 200
  | 0 => by rw [ownTo_zero]; omega
  | k + 1 => by
    have := ownTo_le h u k
    have := (h.fine k).dl
    rw [ownTo_succ]
    split <;> omega
/-- How much the chosen ones of the first k inodes hold. -/
def szTo (t : Tr) (f : Nat → Bool) (k : Nat) : Nat := ((List.range k).map fun i => if f i = true then (nod t i).dl else 0).sum
theorem szTo_zero (t : Tr) (f : Nat → Bool) : szTo t f 0 = 0 := by unfold szTo; simp
theorem szTo_succ (t : Tr) (f : Nat → Bool) (k : Nat) : szTo t f (k + 1) = szTo t f k + if f k = true then (nod t k).dl else 0 := by
  unfold szTo; rw [List.range_succ, List.map_append, List.sum_append]; simp
theorem szTo_le {t : Tr} (h : Ok1 t) (f : Nat → Bool) : ∀ k, szTo t f k ≤ k * 200
  | 0 => by rw [szTo_zero]; omega
  | k + 1 => by
    have := szTo_le h f k
    have := (h.fine k).dl
    rw [szTo_succ]
    split <;> omega
theorem szTo_all (t : Tr) (L : List Vis) : szTo t (hasL L) t.length = usg t L := rfl

end Go.Proofs.Ytndhhofidkaomaa
