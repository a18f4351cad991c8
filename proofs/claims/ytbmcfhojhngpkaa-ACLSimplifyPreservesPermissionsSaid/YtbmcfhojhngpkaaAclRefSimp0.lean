/- Plain facts on the reference's SimplifyACL: what its loops compute on valid entries. -/
import Derived.Test.YtbmcfhojhngpkaaAclSimp
import Derived.Test.YtbmcfhojhngpkaaAclLawPerms
namespace Go.Proofs.Ytbmcfhojhngpkaa
open Go.RowKit

/-- Is there a user among 1 to n for whom m is needed? -/
def ndN (e : Ent) (bs : List Ent) (m : Int) : Nat → Bool
  | 0 => false
  | n + 1 => ndN e bs m n || need e bs m ((n : Int) + 1)
theorem ndN_any (e : Ent) (bs : List Ent) (m : Int) : ∀ n, ndN e bs m n = (List.range n).any fun i : Nat => need e bs m ((i : Int) + 1)
  | 0 => rfl
  | n + 1 => by
    unfold ndN
    rw [ndN_any e bs m n, List.range_succ, List.any_append]
    simp
theorem ndN_nev (e : Ent) (bs : List Ent) (m : Int) : nev e bs m = !ndN e bs m 7 := by
  rw [ndN_any]
  unfold nev
  rw [List.all_eq_not_any_not]
  simp
theorem ndN_step {e : Ent} {bs : List Ent} {m x : Int} (h : 1 ≤ x) : ndN e bs m (x + 1 - 1).toNat = (ndN e bs m (x - 1).toNat || need e bs m x) := by
  have e1 : (x + 1 - 1).toNat = (x - 1).toNat + 1 := by omega
  have e2 : (((x - 1).toNat : Nat) : Int) + 1 = x := by omega
  rw [e1]
  conv => lhs; unfold ndN
  rw [e2]

/-- What the reference's loop leaves of a set after k permissions. -/
def rst (p : Int → Bool) (a : Int) : Nat → Int
  | 0 => a
  | k + 1 => if p (pmx k) then rst p a k - bits .and .i64 (rst p a k) (pmx k) else rst p a k
theorem rst_yes {p : Int → Bool} {a : Int} {k : Nat} (h : p (pmx k) = true) : rst p a (k + 1) = rst p a k - bits .and .i64 (rst p a k) (pmx k) := by
  conv => lhs; unfold rst
  rw [if_pos h]
theorem rst_no {p : Int → Bool} {a : Int} {k : Nat} (h : p (pmx k) = false) : rst p a (k + 1) = rst p a k := by
  conv => lhs; unfold rst
  rw [if_neg (by rw [h]; simp)]
theorem sub_fin : ∀ a : Fin 16, ∀ k : Fin 4, 0 ≤ bits .and .i64 ((a.val : Nat) : Int) (pmx k.val) ∧ 0 ≤ ((a.val : Nat) : Int) - bits .and .i64 ((a.val : Nat) : Int) (pmx k.val) ∧ ((a.val : Nat) : Int) - bits .and .i64 ((a.val : Nat) : Int) (pmx k.val) ≤ 15 := by
  decide +kernel
theorem sub_bd {a : Int} {k : Nat} (h0 : 0 ≤ a) (h1 : a ≤ 15) (hk : k < 4) : 0 ≤ bits .and .i64 a (pmx k) ∧ 0 ≤ a - bits .and .i64 a (pmx k) ∧ a - bits .and .i64 a (pmx k) ≤ 15 := by
  obtain ⟨A, rfl⟩ := Int.eq_ofNat_of_zero_le h0
  exact sub_fin ⟨A, by omega⟩ ⟨k, hk⟩
theorem rst_bd {p : Int → Bool} {a : Int} (h0 : 0 ≤ a) (h1 : a ≤ 15) : ∀ k, k ≤ 4 → 0 ≤ rst p a k ∧ rst p a k ≤ 15
  | 0, _ => ⟨h0, h1⟩
  | k + 1, h => by
    have ih := rst_bd (p := p) h0 h1 k (by omega)
    cases hp : p (pmx k) with
    | true => rw [rst_yes hp]; exact (sub_bd ih.1 ih.2 (by omega)).2
    | false => rw [rst_no hp]; exact ih
def pwB (b1 b2 b4 b8 : Bool) : Int := pw (fun m => if m = 1 then b1 else if m = 2 then b2 else if m = 4 then b4 else b8) 4
theorem rst_fin : ∀ a : Fin 16, ∀ b1 b2 b4 b8 : Bool, rst (fun m => if m = 1 then b1 else if m = 2 then b2 else if m = 4 then b4 else b8) ((a.val : Nat) : Int) 4 = bits .andNot .i64 ((a.val : Nat) : Int) (pwB b1 b2 b4 b8) := by
  decide +kernel
theorem pw_B (p : Int → Bool) : pw p 4 = pwB (p 1) (p 2) (p 4) (p 8) := by
  have e0 : pm 0 = 1 := rfl
  have e1 : pm 1 = 2 := rfl
  have e2 : pm 2 = 4 := rfl
  have e3 : pm 3 = 8 := rfl
  simp [pwB, pw, e0, e1, e2, e3]
theorem rst_B (p : Int → Bool) (a : Int) : rst p a 4 = rst (fun m => if m = 1 then p 1 else if m = 2 then p 2 else if m = 4 then p 4 else p 8) a 4 := by
  have f0 : pmx 0 = 1 := rfl
  have f1 : pmx 1 = 2 := rfl
  have f2 : pmx 2 = 4 := rfl
  have f3 : pmx 3 = 8 := rfl
  simp [rst, f0, f1, f2, f3]
theorem rst_strip {p : Int → Bool} {a : Int} (h0 : 0 ≤ a) (h1 : a ≤ 15) : rst p a 4 = bits .andNot .i64 a (pw p 4) := by
  obtain ⟨A, rfl⟩ := Int.eq_ofNat_of_zero_le h0
  rw [rst_B, pw_B]
  exact rst_fin ⟨A, by omega⟩ _ _ _ _
theorem keep_fin : ∀ a d : Fin 16, (bits .or .i64 ((a.val : Nat) : Int) ((d.val : Nat) : Int) != 0) = decide (0 < ((a.val : Nat) : Int) + ((d.val : Nat) : Int)) := by
  decide +kernel
theorem keep_sum {a d : Int} (h0 : 0 ≤ a) (h1 : a ≤ 15) (h2 : 0 ≤ d) (h3 : d ≤ 15) : (bits .or .i64 a d != 0) = decide (0 < a + d) := by
  obtain ⟨A, rfl⟩ := Int.eq_ofNat_of_zero_le h0
  obtain ⟨D, rfl⟩ := Int.eq_ofNat_of_zero_le h2
  exact keep_fin ⟨A, by omega⟩ ⟨D, by omega⟩
/-- The place j entry, taken in. -/
theorem any_snoc {xs : List Ent} {j : Nat} (h : j < xs.length) (P : Ent → Bool) : (xs.take (j + 1)).any P = ((xs.take j).any P || P (xs.getD j E0)) := by
  rw [List.take_succ_eq_append_getElem h, entD h, List.any_append]
  simp

end Go.Proofs.Ytbmcfhojhngpkaa
