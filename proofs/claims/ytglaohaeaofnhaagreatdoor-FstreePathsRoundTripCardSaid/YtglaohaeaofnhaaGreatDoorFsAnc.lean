/- What Lookup answers at a path of a valid tree and at its prefixes, in plain words. No program. -/
import Derived.Test.YtglaohaeaofnhaaGreatDoorFsLook
import Derived.Test.YtglaohaeaofnhaaGreatDoorFsPaths
import Derived.Test.YtglaohaeaofnhaaGreatDoorPathRound
namespace Go.Proofs.YtglaohaeaofnhaaGreatDoor
open Go.RowKit

theorem Rch.front {t : Tr} {n m : Nat} {zs : List ByteArray} (hz : Rch t n zs m) : (zs = [] ∧ m = n) ∨ ∃ e ∈ kids t n, ∃ us, zs = e.n :: us ∧ Rch t e.i.toNat us m := by
  induction hz with
  | nil => exact .inl ⟨rfl, rfl⟩
  | snoc hz he ih =>
    rcases ih with ⟨rfl, rfl⟩ | ⟨e', he', us, rfl, hus⟩
    · exact .inr ⟨_, he, [], by simp, .nil⟩
    · exact .inr ⟨e', he', _, by simp, .snoc hus he⟩
theorem resT_rch {t : Tr} (h1 : Ok1 t) : ∀ (xs : List ByteArray) (n m i : Nat), Rch t n xs m → resT t xs n i = (m, 0, 0)
  | [], n, m, i, h => by
    rcases h.front with ⟨_, rfl⟩ | ⟨e, _, us, hh, _⟩
    · rfl
    · cases hh
  | x :: r, n, m, i, h => by
    rcases h.front with ⟨hh, _⟩ | ⟨e, he, us, hh, hr⟩
    · cases hh
    · injection hh with h2 h3
      subst h2 h3
      have hk : (nod t n).k = 1 := (h1.kid he).2.2.2.2
      have hs : SrtE (kids t n) := (h1.fine n).srt
      have hf : fndE (kids t n) e.n = true := by
        cases hc : fndE (kids t n) e.n with
        | true => rfl
        | false => exact absurd rfl ((found_iff hs).2 hc e he)
      have he2 : (kids t n).getD (lowE (kids t n) e.n) D0 = e := entry_same hs ((found_iff hs).1 hf).1 he ((found_iff hs).1 hf).2
      unfold resT
      rw [if_neg (by rw [hk]; decide), if_pos hf, he2]
      exact resT_rch h1 r _ _ _ hr
theorem rch_prefix {t : Tr} (h1 : Ok1 t) {s m : Nat} {xs : List ByteArray} (h : Rch t s xs m) : ∀ i, i < xs.length → ∃ q, Rch t s (xs.take i) q ∧ (nod t q).k = 1 := by
  induction h with
  | nil => intro i hi; simp at hi
  | @snoc xs p e h he ih =>
    intro i hi
    by_cases hl : i < xs.length
    · obtain ⟨q, a, b⟩ := ih i hl
      exact ⟨q, by rw [List.take_append_of_le_length (by omega)]; exact a, b⟩
    · obtain rfl : i = xs.length := by simp at hi; omega
      exact ⟨p, by rw [List.take_left]; exact h, (h1.kid he).2.2.2.2⟩
theorem short_of {xs : List ByteArray} (h : joinV xs = .tuple #[.string (bP xs), faultV 0 0]) : compFault xs = (0, 0) ∧ ¬ 100 < (pstr xs).length := by
  unfold joinV faultV at h
  have h1 : (joinF xs).1 = 0 := by
    simp at h
    exact h.2.1
  unfold joinF at h1
  by_cases hc : (compFault xs).1 = 0
  · rw [if_pos hc] at h1
    refine ⟨Prod.ext hc (compFault_ok hc).2.1, fun hl => ?_⟩
    rw [if_pos hl] at h1; cases h1
  · rw [if_neg hc] at h1
    exact absurd h1 hc
theorem path_split {t : Tr} (hd : Head t) (p4 : Pass t 4) {xs : List ByteArray} {m : Nat} (hr : Rch t 0 xs m) : splitF (bP xs) = (0, 0) ∧ splitL (bP xs) = xs := by
  obtain ⟨h1, h2⟩ := short_of (Pass.joins hd p4 hr)
  exact split_join h1 h2
theorem look_path {t : Tr} (hq : (valT t).1 = 0) {xs : List ByteArray} {m : Nat} (hr : Rch t 0 xs m) : lookF t (bP xs) = (m, 0, 0) := by
  obtain ⟨hd, p4⟩ := valT_ok hq
  obtain ⟨h1, h2⟩ := path_split hd p4 hr
  rw [lookF_res hq (by rw [h1]), h2, resT_rch (Pass.ok1 hd (p4.mono (by omega))) xs 0 m 0 hr]
  rfl
theorem bP_fits {xs : List ByteArray} (hv : ∀ x ∈ xs, vname x = true) (h : xs.length ≤ 40) : (bP xs).size ≤ maxLen := by
  have := bP_size hv
  unfold maxLen; omega

end Go.Proofs.YtglaohaeaofnhaaGreatDoor
