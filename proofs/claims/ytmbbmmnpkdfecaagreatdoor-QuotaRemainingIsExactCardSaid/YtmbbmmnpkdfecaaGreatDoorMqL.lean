/- What a law of package memfs or of its neighbours needs, at the translation of this seat.
   Condition: as each theorem states; this text: QrLaw0. -/
import Derived.Test.YtmbbmmnpkdfecaaGreatDoorMqB
import Derived.Deep.RegionHeld3

set_option linter.all false

/- What the law QuotaRemainingIsExact's walk needs beside the write's reply: Lookup's errors in plain words, the sample's Remaining, bytes just made. -/

set_option linter.all false
namespace Go.Proofs.YtmbbmmnpkdfecaaGreatDoor
open Go.RowKit

theorem resT_err (t : Tr) : ∀ (xs : List ByteArray) (n i : Nat), (resT t xs n i).2.1 ≠ 0 → (resT t xs n i).1 = 0
  | [], n, i, h => absurd rfl h
  | x :: xs, n, i, h => by
    rw [resT] at h ⊢
    by_cases h1 : (nod t n).k = 2
    · rw [if_pos h1]
    · rw [if_neg h1] at h ⊢
      by_cases h2 : fndE (kids t n) x = true
      · rw [if_pos h2] at h ⊢; exact resT_err t xs _ _ h
      · rw [if_neg h2]
theorem lookF_err {t : Tr} {p : ByteArray} (h : (lookF t p).2.1 ≠ 0) : (lookF t p).1 = 0 := by
  by_cases hv : (valT t).1 = 0
  · by_cases hs : (splitF p).1 = 0
    · rw [lookF_res hv hs] at h ⊢; exact resT_err t _ _ _ h
    · rw [lookF_split hv hs]
  · rw [lookF_bad hv]
theorem lookF_lt {t : Tr} {p : ByteArray} (h : (lookF t p).2.1 = 0) : (valT t).1 = 0 := by
  by_cases hv : (valT t).1 = 0
  · exact hv
  · rw [lookF_bad hv] at h; exact absurd h hv
theorem resT_in {t : Tr} (h1 : Ok1 t) : ∀ (xs : List ByteArray) (n i : Nat), (nod t n).k ≠ 0 → (resT t xs n i).2.1 = 0 → (nod t (resT t xs n i).1).k ≠ 0
  | [], n, i, hk, _ => hk
  | x :: xs, n, i, hk, h => by
    rw [resT] at h ⊢
    by_cases h2 : (nod t n).k = 2
    · rw [if_pos h2] at h; exact absurd h (show ¬ (8:Int) = 0 by decide)
    · rw [if_neg h2] at h ⊢
      by_cases h3 : fndE (kids t n) x = true
      · rw [if_pos h3] at h ⊢
        exact resT_in h1 xs _ _ (kid_found h1 (n := n) (x := x) h3).2.2.2 h
      · rw [if_neg h3] at h; exact absurd h (show ¬ (6:Int) = 0 by decide)
theorem lookF_in {t : Tr} {p : ByteArray} (h : (lookF t p).2.1 = 0) : (lookF t p).1 < t.length := by
  have hv := lookF_lt h
  have h1 := (vd_of hv).toSv.ok1
  have hs : (splitF p).1 = 0 := by
    by_cases e : (splitF p).1 = 0
    · exact e
    · rw [lookF_split hv e] at h; exact absurd h e
  rw [lookF_res hv hs] at h ⊢
  have := resT_in h1 (splitL p) 0 0 (by rw [h1.root]; decide) h
  rcases Nat.lt_or_ge (resT t (splitL p) 0 0).1 t.length with h9 | h9
  · exact h9
  · rw [nod_past h9] at this; exact absurd rfl this
theorem fileM_sample : fileF sampleT 2 0 = (0, 0) := by decide +kernel
theorem remM_sample : remF sampleT 2 3 = 197 := by decide +kernel
theorem remM_any (b : Nat) (w : World) (h : Nods w w.heap.size (some ⟨b, 0, none⟩) 3 sampleT) :
    Calls Tryz.prog 29 #[.agg #[.slice (some ⟨b, 0, none⟩) sampleT.length 3], .int .i64 2] w fun e w' => e = .returned (.tuple #[.int .i64 197, .agg #[.int .i64 0, .int .i64 0]]) ∧ Below w.heap.size w w' := by
  refine (remaining_any (some ⟨b, 0, none⟩) 3 sampleT 2 w h).mono ?_
  rintro e w' (⟨h1, _⟩ | ⟨_, h2, h4⟩)
  · exact absurd (by rw [fileM_sample]) h1
  · refine ⟨?_, h4⟩
    rw [h2]
    have e : remF sampleT (Int.toNat 2) sampleT.length = 197 := remM_sample
    rw [e]
    rfl
theorem FNods.nods_ {w : World} {B : Nat} {a : Option Addr} {c : Nat} {t : FT} (h : FNods w B a c t) : Nods w B a c (tr t) := by
  refine ⟨by rw [tr_len]; exact h.cap, by rw [tr_len]; exact h.len, fun h0 => ?_⟩
  rw [tr_len] at h0
  obtain ⟨b, o, ha, hb, hj⟩ := h.at_ h0
  refine ⟨b, o, ha, hb, fun j hjl => ?_⟩
  rw [tr_len] at hjl
  obtain ⟨s, h1, h2, _⟩ := hj j hjl
  rw [nod_tr]
  exact ⟨s.e, s.d, s.a, s.x, h1, h2⟩

/-- k bytes just made are k zeros. -/
theorem made_byts {w : World} {g k : Nat} (hk : k ≤ 200) (hg : w.heap.size = g) : Byts (w.alloc (.cells (flatB (zerosB k)).toArray 5)) (w.alloc (.cells (flatB (zerosB k)).toArray 5)).heap.size (.slice (some ⟨g, 0, none⟩) k k) (zerosB k) := by
  subst hg
  exact byts_own (base := 0) (n := k) (bytes_made (g := w.heap.size) (d := zerosB k) (heap_alloc_last' w _) (by simp [zerosB]) (Nat.zero_le _) (by omega)) (by simp [zerosB]; omega)
theorem byts_al {w : World} {v : Value} {d : List UInt8} (h : Byts w w.heap.size v d) (o : Obj) : Byts (w.alloc o) (w.alloc o).heap.size v d := h.up ((Below.refl _ _).alloc (Nat.le_refl _) o)
theorem byts_dr {w : World} {v : Value} {d : List UInt8} (h : Byts w w.heap.size v d) : Byts w.drew w.drew.heap.size v d := h.up (Below.refl _ _).drew

end Go.Proofs.YtmbbmmnpkdfecaaGreatDoor
