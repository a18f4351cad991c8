/- What Lookup returns, in plain words; the reference's Resolve at every valid tree and list of components. Conditions: the tree's inodes are valid by themselves; the cells lie in memory as they read. -/
import Derived.Test.YteomlacohddecaaDoorFsFind
import Derived.Test.YteomlacohddecaaDoorFsRefs
import Derived.Test.YteomlacohddecaaDoorPathSplit
import Derived.OwnWalk
import Derived.Deep.Quiet

set_option linter.all false
namespace Go.Proofs.YteomlacohddecaaDoor
open Go.RowKit

/-- The walk along components from an inode: the inode, the code and the place of the fault. -/
def resT (t : Tr) : List ByteArray → Nat → Nat → Nat × Int × Nat
  | [], n, _ => (n, 0, 0)
  | x :: r, n, i => if (nod t n).k = 2 then (0, 8, i) else if fndE (kids t n) x = true then resT t r ((kids t n).getD (lowE (kids t n) x) D0).i.toNat (i + 1) else (0, 6, i)
theorem resT_file {t : Tr} {xs : List ByteArray} {n i : Nat} (h : i < xs.length) (hk : (nod t n).k = 2) : resT t (xs.drop i) n i = (0, 8, i) := by
  rw [List.drop_eq_getElem_cons h, resT, if_pos hk]
theorem resT_miss {t : Tr} {xs : List ByteArray} {n i : Nat} (h : i < xs.length) (hk : (nod t n).k ≠ 2) (hf : fndE (kids t n) (xs.getD i ByteArray.empty) = false) : resT t (xs.drop i) n i = (0, 6, i) := by
  rw [getD_eq h] at hf
  rw [List.drop_eq_getElem_cons h, resT, if_neg hk, if_neg (by rw [hf]; simp)]
theorem resT_hit {t : Tr} {xs : List ByteArray} {n i : Nat} (h : i < xs.length) (hk : (nod t n).k ≠ 2) (hf : fndE (kids t n) (xs.getD i ByteArray.empty) = true) : resT t (xs.drop i) n i = resT t (xs.drop (i + 1)) ((kids t n).getD (lowE (kids t n) (xs.getD i ByteArray.empty)) D0).i.toNat (i + 1) := by
  rw [getD_eq h] at hf ⊢
  rw [List.drop_eq_getElem_cons h, resT, if_neg hk, if_pos hf]
theorem resT_end {t : Tr} {xs : List ByteArray} {n : Nat} : resT t (xs.drop xs.length) n xs.length = (n, 0, 0) := by
  rw [List.drop_length, resT]
/-- What is known of an entry that is found. -/
theorem kid_found {t : Tr} (h1 : Ok1 t) {n : Nat} {x : ByteArray} (hf : fndE (kids t n) x = true) : lowE (kids t n) x < (kids t n).length ∧ 0 < ((kids t n).getD (lowE (kids t n) x) D0).i ∧ ((kids t n).getD (lowE (kids t n) x) D0).i.toNat < t.length ∧ (nod t ((kids t n).getD (lowE (kids t n) x) D0).i.toNat).k ≠ 0 := by
  have h2 := h1.kid ((found_iff (h1.fine n).srt).1 hf).1
  exact ⟨(fndE_iff.1 hf).1, h2.2.1, h2.2.2.1, h2.2.2.2.1⟩
/-- The inode that the reference's loop over the first k entries leaves. -/
def Last (es : List DE) (x : ByteArray) (k : Nat) (to : Int) : Prop := ((∀ e ∈ es.take k, e.n ≠ x) ∧ to = -1) ∨ ∃ e ∈ es.take k, e.n = x ∧ to = e.i
theorem last_zero (es : List DE) (x : ByteArray) : Last es x 0 (-1) := .inl ⟨by simp, rfl⟩
theorem last_hit {es : List DE} {x : ByteArray} {k : Nat} {i : Int} {y : ByteArray} (hk : k < es.length) (hy : es.getD k D0 = ⟨y, i⟩) (he : y = x) : Last es x (k + 1) i :=
  .inr ⟨es.getD k D0, by rw [List.take_succ_eq_append_getElem hk, deD hk]; exact List.mem_append_right _ (List.mem_singleton.2 rfl), by rw [hy]; exact he, by rw [hy]⟩
theorem last_miss {es : List DE} {x : ByteArray} {k : Nat} {to i : Int} {y : ByteArray} (h : Last es x k to) (hk : k < es.length) (hy : es.getD k D0 = ⟨y, i⟩) (he : y ≠ x) : Last es x (k + 1) to := by
  rw [deD hk] at hy
  rcases h with ⟨h1, h2⟩ | ⟨e, h1, h2, h3⟩
  · refine .inl ⟨fun e he2 => ?_, h2⟩
    rw [List.take_succ_eq_append_getElem hk] at he2
    rcases List.mem_append.1 he2 with h4 | h4
    · exact h1 e h4
    · obtain rfl : e = es[k] := by simpa using h4
      rw [hy]; exact he
  · exact .inr ⟨e, by rw [List.take_succ_eq_append_getElem hk]; exact List.mem_append_left _ h1, h2, h3⟩
theorem last_end {es : List DE} {x : ByteArray} {to : Int} (h : Last es x es.length to) (hs : SrtE es) : (fndE es x = true → to = (es.getD (lowE es x) D0).i) ∧ (fndE es x = false → to = -1) := by
  unfold Last at h
  rw [List.take_length] at h
  constructor
  · intro hf
    obtain ⟨h1, h2⟩ := (found_iff hs).1 hf
    rcases h with ⟨h3, _⟩ | ⟨e, h3, h4, h5⟩
    · exact absurd h2 (h3 _ h1)
    · rw [h5, entry_same hs h3 h1 (by rw [h4, h2])]
  · intro hf
    rcases h with ⟨_, h3⟩ | ⟨e, h3, h4, _⟩
    · exact h3
    · exact absurd h4 ((found_iff hs).2 hf e h3)

end Go.Proofs.YteomlacohddecaaDoor
