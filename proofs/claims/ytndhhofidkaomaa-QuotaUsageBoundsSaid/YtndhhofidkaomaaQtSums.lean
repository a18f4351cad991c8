/- Sums of sizes: the owners' sums and the usage of the root; the usage of a directory and of its entries. No program. -/
import Derived.Test.YtndhhofidkaomaaQtUsage

set_option linter.all false
namespace Go.Proofs.Ytndhhofidkaomaa
open Go.RowKit

theorem mem_le_sum : ∀ {l : List Nat} {x : Nat}, x ∈ l → x ≤ l.sum
  | a :: l, x, h => by
    rcases List.mem_cons.1 h with rfl | h
    · simp
    · have := mem_le_sum h; simp; omega
theorem sum_mono {α : Type} (f g : α → Nat) : ∀ (l : List α), (∀ x ∈ l, f x ≤ g x) → (l.map f).sum ≤ (l.map g).sum
  | [], _ => by simp
  | a :: l, h => by
    have h1 := h a (by simp)
    have h2 := sum_mono f g l fun x hx => h x (by simp [hx])
    simp only [List.map_cons, List.sum_cons]; omega
theorem sum_swap {α : Type} (f : α → Nat → Nat) (m : List Nat) : ∀ (l : List α), (l.map fun e => (m.map (f e)).sum).sum = (m.map fun j => (l.map fun e => f e j).sum).sum
  | [] => by
    have : ∀ m : List Nat, (m.map fun _ => 0).sum = 0 := fun m => by induction m with
      | nil => rfl
      | cons a m ih => simpa using ih
    simp [this]
  | a :: l => by
    simp only [List.map_cons, List.sum_cons]
    rw [sum_swap f m l, ← sum_map_add]

/-- The first k of the owners' sums, together. -/
def byTo (t : Tr) (k : Nat) : Nat := ((List.range k).map fun u => ownTo t t.length u).sum
theorem byTo_zero (t : Tr) : byTo t 0 = 0 := rfl
theorem byTo_succ (t : Tr) (k : Nat) : byTo t (k + 1) = byTo t k + ownTo t t.length k := by
  unfold byTo; rw [List.range_succ, List.map_append, List.sum_append]; simp
theorem byTo_le {t : Tr} (h : Ok1 t) : ∀ k, byTo t k ≤ k * 8000
  | 0 => by rw [byTo_zero]; omega
  | k + 1 => by
    have := byTo_le h k
    have h2 := ownTo_le h k t.length
    have := h.le
    rw [byTo_succ]; omega
theorem owners_all {t : Tr} (h : Ok1 t) : ∀ m, m ≤ t.length → ((List.range 8).map fun u => ownTo t m u).sum = ((List.range m).map fun i => (nod t i).dl).sum
  | 0, _ => by simp only [ownTo_zero]; rfl
  | m + 1, hm => by
    obtain ⟨u, hu, hu8⟩ := h.own (n := m) (by omega)
    rw [List.range_succ (n := m), List.map_append, List.sum_append, ← owners_all h m (by omega)]
    simp only [ownTo_succ, List.map_cons, List.map_nil, List.sum_cons, List.sum_nil, Nat.add_zero]
    rw [sum_map_add, hu]
    congr 1
    have e : ∀ i : Nat, (if (u : Int) = (i : Int) then (nod t m).dl else 0) = if u = i then (fun _ => (nod t m).dl) i else 0 := fun i => by
      by_cases e : u = i
      · subst e; simp
      · rw [if_neg e, if_neg (by omega)]
    simp only [e]
    rw [sum_one_at, if_pos hu8]
theorem free_dl {t : Tr} (h1 : Ok1 t) {n : Nat} (hn : n < t.length) (hk : (nod t n).k = 0) : (nod t n).dl = 0 := by
  have hc := h1.code n hn
  unfold codeN at hc
  rw [if_pos hk] at hc
  unfold codeF at hc
  split at hc
  · rename_i h0; omega
  · cases hc
theorem dir_dl {t : Tr} (h1 : Ok1 t) {n : Nat} (hn : n < t.length) (hk : (nod t n).k = 1) : (nod t n).dl = 0 := by
  have hc := h1.code n hn
  unfold codeN at hc
  rw [if_neg (by omega), if_pos (.inl hk)] at hc
  have h2 := (or4_zero hc).1
  unfold codeC at h2
  split at h2
  · cases h2
  · split at h2
    · cases h2
    · rename_i h3
      rcases Nat.eq_zero_or_pos (nod t n).dl with h0 | h0
      · exact h0
      · exact absurd (.inl ⟨hk, h0⟩) h3
/-- All that users own is below the root. -/
theorem byTo_root {t : Tr} (hd : Head t) (p4 : Pass t 4) : byTo t 8 = usgN t 0 := by
  have h1 := Pass.ok1 hd (p4.mono (by omega))
  have o2 := Pass.ok2 hd (p4.mono (by omega))
  unfold byTo usgN usg
  rw [owners_all h1 t.length (Nat.le_refl _)]
  congr 1
  refine List.map_congr_left fun i hi => ?_
  have hil : i < t.length := List.mem_range.1 hi
  by_cases hk : (nod t i).k = 0
  · rw [free_dl h1 hil hk]; simp
  · obtain ⟨_, zs, hz⟩ := Pass.from_ hd (p4.mono (by omega)) hil hk
    rw [if_pos (hasL_iff.2 ⟨zs, (mem_visits o2.fin).2 hz⟩)]
theorem rch_first {t : Tr} {n m : Nat} {zs : List ByteArray} (hz : Rch t n zs m) : (zs = [] ∧ m = n) ∨ ∃ e ∈ kids t n, ∃ us, zs = e.n :: us ∧ Rch t e.i.toNat us m := by
  induction hz with
  | nil => exact .inl ⟨rfl, rfl⟩
  | snoc hz he ih =>
    rcases ih with ⟨rfl, rfl⟩ | ⟨e', he', us, rfl, hus⟩
    · exact .inr ⟨_, he, [], by simp, .nil⟩
    · exact .inr ⟨e', he', _, by simp, .snoc hus he⟩
theorem has_kid {t : Tr} (hd : Head t) (p3 : Pass t 3) {n : Nat} (hn : n < t.length) {e : DE} (he : e ∈ kids t n) {j : Nat} (hj : hasL (visits t e.i.toNat) j = true) : hasL (visits t n) j = true := by
  have h1 := Pass.ok1 hd (p3.mono (by omega))
  have hl := (h1.kid he).2.2.1
  obtain ⟨xs, hx⟩ := hasL_iff.1 hj
  have hr := (mem_visits (reach_ok hd p3 hl).1).1 hx
  have h2 := Rch.trans (Rch.snoc (Rch.nil (t := t) (s := n)) he) hr
  exact hasL_iff.2 ⟨_, (mem_visits (reach_ok hd p3 hn).1).2 h2⟩
/-- An entry's usage is at most the directory's. -/
theorem usgN_kid {t : Tr} (hd : Head t) (p3 : Pass t 3) {n : Nat} (hn : n < t.length) {e : DE} (he : e ∈ kids t n) : usgN t e.i.toNat ≤ usgN t n := by
  unfold usgN usg
  refine sum_mono _ _ _ fun j _ => ?_
  by_cases h : hasL (visits t e.i.toNat) j = true
  · rw [if_pos h, if_pos (has_kid hd p3 hn he h)]; exact Nat.le_refl _
  · rw [if_neg h]; exact Nat.zero_le _
/-- The usage of the first k entries, together. -/
def entTo (t : Tr) (n k : Nat) : Nat := (((kids t n).take k).map fun e => usgN t e.i.toNat).sum
theorem entTo_zero (t : Tr) (n : Nat) : entTo t n 0 = 0 := by unfold entTo; simp
theorem entTo_succ {t : Tr} {n k : Nat} (h : k < (kids t n).length) : entTo t n (k + 1) = entTo t n k + usgN t ((kids t n).getD k D0).i.toNat := by
  unfold entTo; rw [List.take_succ_eq_append_getElem h, List.map_append, List.sum_append, deD h]; simp
theorem entTo_le {t : Tr} (h : Ok1 t) (n : Nat) : ∀ k, k ≤ (kids t n).length → entTo t n k ≤ k * 8000
  | 0, _ => by rw [entTo_zero]; exact Nat.zero_le _
  | k + 1, hk => by
    have := entTo_le h n k (by omega)
    have h2 : usgN t ((kids t n).getD k D0).i.toNat ≤ 8000 := usg_le h _
    rw [entTo_succ (by omega)]
    generalize usgN t ((kids t n).getD k D0).i.toNat = z at *
    omega
/-- A directory's usage is at most that of its entries together. -/
theorem usgN_dir {t : Tr} (hd : Head t) (p3 : Pass t 3) {n : Nat} (hn : n < t.length) (hk : (nod t n).k = 1) : usgN t n ≤ entTo t n (kids t n).length := by
  have h1 := Pass.ok1 hd (p3.mono (by omega))
  unfold entTo usgN usg
  rw [List.take_length, sum_swap]
  refine sum_mono _ _ _ fun j _ => ?_
  by_cases h : hasL (visits t n) j = true
  · rw [if_pos h]
    obtain ⟨xs, hx⟩ := hasL_iff.1 h
    rcases rch_first ((mem_visits (reach_ok hd p3 hn).1).1 hx) with ⟨_, rfl⟩ | ⟨e, he, us, _, hr⟩
    · rw [dir_dl h1 hn hk]; exact Nat.zero_le _
    · have hl := (h1.kid he).2.2.1
      have h2 : hasL (visits t e.i.toNat) j = true := hasL_iff.2 ⟨_, (mem_visits (reach_ok hd p3 hl).1).2 hr⟩
      refine mem_le_sum (List.mem_map.2 ⟨e, he, ?_⟩)
      rw [if_pos h2]
  · rw [if_neg h]; exact Nat.zero_le _

end Go.Proofs.Ytndhhofidkaomaa
