/- What a law of package memfs or of its neighbours needs, at the translation of this seat.
   Condition: as each theorem states; this text: MfRaw0. -/
import Derived.Test.YtmbbmmnpkdfecaaGreatDoorMb34

set_option linter.all false

/- A write that succeeds, and reads of the same file before and behind it, in plain words. No program. -/

set_option linter.all false
namespace Go.Proofs.YtmbbmmnpkdfecaaGreatDoor
open Go.RowKit

theorem alw_zeroR {t : FT} (hv : Sv (tr t)) {n : Nat} {m : Int} (hm : prm m = true) : alw t n 0 m = true := by
  have hk := hv.node n
  rw [nod_tr] at hk
  unfold alw allB
  rw [Bool.and_eq_true]
  refine ⟨decide_eq_true ?_, (dec_zero _ _ _).symm⟩
  have hac : (valF (ino t n).ac).1 = 0 := hk.ac
  have ho : usr (ino t n).o = true := by
    have h1 : 0 ≤ (ino t n).o := hk.o0
    have h2 : (ino t n).o ≤ 7 := hk.o7
    unfold usr; simp; omega
  have e0 : usrF (ino t n).ac (ino t n).o 0 = valF (ino t n).ac := by
    unfold usrF
    rw [if_neg (fun h => by
      have := h.2
      rw [ho] at this
      cases this)]
  unfold allC
  rw [e0, if_neg (fun h => by rw [hm] at h; cases h.2)]
  exact hac
/-- A read. -/
def rdq (p : ByteArray) (off sz : Int) : Rq := ⟨3, 0, p, ByteArray.empty, off, sz, [], [], A0⟩
theorem rdq_ok {p : ByteArray} (hp : pathB p = true) {off sz : Int} (o0 : 0 ≤ off) (o1 : off ≤ 1000000) (z0 : 0 ≤ sz) (z1 : sz ≤ 1000000) : rqC (rdq p off sz) = 0 := by
  unfold rqC
  have hkn : knownB (rdq p off sz).k = true := by show knownB 3 = true; decide
  have hus : usrB (rdq p off sz).u = true := by show usrB 0 = true; decide
  have hbl : blankB (wo (rdq p off sz)) = true := by unfold wo; rw [if_pos (show (rdq p off sz).k = 3 from rfl)]; rfl
  have hpa : pathB (rdq p off sz).p = true := hp
  have htw : twoB (rdq p off sz).k = false := by show twoB 3 = false; decide
  have hof : offB (rdq p off sz).off = true := by show offB off = true; unfold offB; simp; omega
  have hszb : szB (rdq p off sz).k (rdq p off sz).sz = true := by show szB 3 sz = true; unfold szB maxSz; simp; omega
  rw [hkn, hus, hbl, hpa, htw, hof, hszb]
  simp only [Bool.true_eq_false, if_false, Bool.false_eq_true, false_and]
  rw [if_neg (show ¬ 200 < (rdq p off sz).d.length from by show ¬ 200 < 0; decide), if_neg (show ¬ (valF (rdq p off sz).ac).1 ≠ 0 from by show ¬ (valF []).1 ≠ 0; decide), if_neg (show ¬ (rdq p off sz).k = 12 from by show ¬ (3 : Int) = 12; decide)]

theorem reach_read {t : FT} (hv : Sv (tr t)) {p : ByteArray} {n : Int} (h : reachF t 0 p 2 2 = (n, 0)) : reachF t 0 p 2 1 = (n, 0) := by
  unfold reachF at h ⊢
  by_cases h1 : (existF t 0 p).2 ≠ 0
  · rw [if_pos h1] at h; injection h with _ h2; exact absurd h2 h1
  · rw [if_neg h1] at h ⊢
    by_cases h2 : (2 : Int) ≠ 0 ∧ 2 ≠ (ino t (existF t 0 p).1.i.toNat).k
    · rw [if_pos h2] at h; injection h with _ h3; exact absurd h3 (by decide)
    · rw [if_neg h2] at h ⊢
      rw [if_neg (by rw [alw_zeroR hv (by decide)]; simp)] at h
      rw [if_neg (by rw [alw_zeroR hv (by decide)]; simp)]
      exact h
def readD (d : List UInt8) (off sz : Int) : List UInt8 := (d.take (min (off.toNat + sz.toNat) d.length)).drop (min off.toNat d.length)
theorem read_at {t : FT} (hv : (valT (tr t)).1 = 0) {p : ByteArray} {n : Nat} (h : reachF t 0 p 2 2 = ((n : Int), 0)) (off sz : Int) : applyF t (rdq p off sz) = (t, ⟨0, readD (ino t n).d off sz, [], S0⟩) := by
  have hp : perfF t (rdq p off sz) = (((n : Int), 0), t) := by
    rw [perfF_at.2.2.1 rfl]
    show (reachF t 0 p 2 1, t) = _
    rw [reach_read (vd_of hv).toSv h]
  unfold applyF
  rw [hp]
  simp only
  rw [if_neg (by simp), if_neg (by rw [hv]; simp)]
  simp only [Int.toNat_natCast]
  unfold replyF readD
  rw [if_pos (show (rdq p off sz).k = 3 from rfl)]
  rfl

/-! ## Paths lead where they led while entries, kinds and lists stay -/
structure Alike (t t' : FT) : Prop where
  k : ∀ m, (ino t' m).k = (ino t m).k
  es : ∀ m, (ino t' m).es = (ino t m).es
  ac : ∀ m, (ino t' m).ac = (ino t m).ac
  o : ∀ m, (ino t' m).o = (ino t m).o
theorem Alike.alw {t t' : FT} (h : Alike t t') (n : Nat) (u m : Int) : alw t' n u m = alw t n u m := by
  unfold Go.Proofs.YtmbbmmnpkdfecaaGreatDoor.alw; rw [h.ac, h.o]
theorem Alike.resP {t t' : FT} (h : Alike t t') (u : Int) : ∀ (xs : List ByteArray) (a : Pl), resP t' u xs a = resP t u xs a
  | [], a => rfl
  | c :: cs, a => by
    unfold Go.Proofs.YtmbbmmnpkdfecaaGreatDoor.resP
    rw [h.k, h.alw, h.es, Alike.resP h u cs]
theorem Alike.reach {t t' : FT} (h : Alike t t') (u : Int) (p : ByteArray) (kd pm : Int) : reachF t' u p kd pm = reachF t u p kd pm := by
  have e : existF t' u p = existF t u p := by unfold existF resolveF; rw [h.resP]
  unfold reachF
  rw [e, h.k, h.alw]

/-! ## What a write leaves -/
theorem splice_at {L : List UInt8} {off : Nat} {cs : List UInt8} (h : off + cs.length ≤ L.length) (k : Nat) : (splice L off cs).getD k 0 = if off ≤ k ∧ k < off + cs.length then cs.getD (k - off) 0 else L.getD k 0 := by
  unfold splice
  simp only [List.getD_eq_getElem?_getD]
  by_cases h1 : k < off
  · rw [if_neg (by omega), List.getElem?_append_left (by simp; omega), List.getElem?_take_of_lt h1]
  · rw [List.getElem?_append_right (by simp; omega)]
    have e : (List.take off L).length = off := by simp; omega
    rw [e]
    by_cases h2 : k < off + cs.length
    · rw [if_pos ⟨by omega, h2⟩, List.getElem?_append_left (by omega)]
    · rw [if_neg (by omega), List.getElem?_append_right (by omega), List.getElem?_drop]
      congr 2; omega
theorem splice_len {L : List UInt8} {off : Nat} {cs : List UInt8} (h : off + cs.length ≤ L.length) : (splice L off cs).length = L.length := by
  unfold splice; simp; omega
theorem zeros_at (n k : Nat) : (zerosB n).getD k 0 = 0 := by
  unfold zerosB
  rw [List.getD_eq_getElem?_getD, List.getElem?_replicate]
  split <;> rfl
theorem base_len (old : List UInt8) (n : Nat) : (splice (zerosB n) 0 (old.take n)).length = n := by
  rw [splice_len (by simp [zerosB]; omega)]; simp [zerosB]
theorem base_at {old : List UInt8} {n k : Nat} (hk : k < n) : (splice (zerosB n) 0 (old.take n)).getD k 0 = old.getD k 0 := by
  rw [splice_at (by simp [zerosB]; omega), zeros_at]
  by_cases h : k < old.length
  · rw [if_pos ⟨by omega, by simp; omega⟩, Nat.sub_zero]
    rw [List.getD_eq_getElem?_getD, List.getD_eq_getElem?_getD, List.getElem?_take_of_lt hk]
  · rw [if_neg (by simp; omega), List.getD_eq_getElem?_getD, List.getElem?_eq_none (by omega)]; rfl
theorem data_facts {old : List UInt8} {r : Rq} {n : Nat} (h : r.d.length = 0 ∨ r.off.toNat + r.d.length ≤ n) : (dataF old r n).length = n ∧
    ∀ k, k < n → (dataF old r n).getD k 0 = if r.off.toNat ≤ k ∧ k < r.off.toNat + r.d.length then r.d.getD (k - r.off.toNat) 0 else old.getD k 0 := by
  unfold dataF
  by_cases h0 : r.d.length = 0
  · rw [if_pos h0]
    exact ⟨base_len old n, fun k hk => by rw [base_at hk, if_neg (by omega)]⟩
  · rw [if_neg h0]
    have h1 := h.resolve_left h0
    have h2 : r.off.toNat + r.d.length ≤ (splice (zerosB n) 0 (old.take n)).length := by rw [base_len]; exact h1
    exact ⟨by rw [splice_len h2, base_len], fun k hk => by rw [splice_at h2, base_at hk]⟩
theorem read_own {old : List UInt8} {r : Rq} {n : Nat} (h : r.d.length = 0 ∨ r.off.toNat + r.d.length ≤ n) : readD (dataF old r n) r.off (r.d.length : Int) = r.d := by
  obtain ⟨hl, hg⟩ := data_facts (old := old) h
  unfold readD
  rw [hl, Int.toNat_natCast]
  rcases h with h0 | h1
  · have e : r.d = [] := List.eq_nil_of_length_eq_zero h0
    rw [h0, e, Nat.add_zero]
    exact List.drop_eq_nil_of_le (List.length_take_le _ _)
  · rw [Nat.min_eq_left h1, Nat.min_eq_left (show r.off.toNat ≤ n by omega)]
    refine List.ext_getElem ?_ fun k hk1 hk2 => ?_
    · simp; omega
    · have := hg (r.off.toNat + k) (by omega)
      rw [if_pos ⟨by omega, by omega⟩, Nat.add_sub_cancel_left] at this
      rw [List.getD_eq_getElem?_getD, List.getD_eq_getElem?_getD, List.getElem?_eq_getElem (by rw [hl]; omega), List.getElem?_eq_getElem hk2] at this
      simp only [Option.getD_some] at this
      rw [List.getElem_drop, List.getElem_take]
      exact this

/-- All that a write does that succeeds. -/
theorem write_at {t : FT} {r : Rq} (hv : (valT (tr t)).1 = 0) (hk : r.k = 4) (hu : r.u = 0) (hq : rqC r = 0) (hc : (applyF t r).2.c = 0) : ∃ n m : Nat, n < t.length ∧ m ≤ 200 ∧
    reachF t 0 r.p 2 2 = ((n : Int), 0) ∧ reachF (applyF t r).1 0 r.p 2 2 = ((n : Int), 0) ∧ (ino (applyF t r).1 n).d = dataF (ino t n).d r m ∧ (r.d.length = 0 ∨ r.off.toNat + r.d.length ≤ m) ∧ (applyF t r).2.s.z = (m : Int) := by
  have hp := perfF_at (t := t) (r := r) |>.2.2.2.1 hk
  have G := rqG_of hq
  have ho : 0 ≤ r.off := by have := G.off; unfold offB at this; simp at this; exact this.1
  unfold applyF at hc ⊢
  rw [hp] at hc ⊢
  unfold changeF at hc ⊢
  rw [hu] at hc ⊢
  by_cases c1 : (reachF t 0 r.p 2 2).2 ≠ 0
  · rw [if_pos c1, if_pos c1] at hc; exact absurd hc c1
  · rw [if_neg c1] at hc ⊢
    have hr := reach_in (vd_of hv).toSv.ok1 (show (reachF t 0 r.p 2 2).2 = 0 by simpa using c1)
    have hrr : reachF t 0 r.p 2 2 = (((reachF t 0 r.p 2 2).1.toNat : Int), 0) := by
      rw [Int.toNat_of_nonneg hr.1]
      exact Prod.ext rfl (by simpa using c1)
    generalize hn : (reachF t 0 r.p 2 2).1.toNat = n at *
    by_cases c2 : (chgF (ino t n) r).1 ≠ 0
    · rw [if_pos c2, if_pos c2] at hc; exact absurd hc c2
    · rw [if_neg c2] at hc ⊢
      have hz0 : 0 ≤ sizeF ((ino t n).d.length : Int) r := by
        unfold sizeF
        rw [if_neg (by omega)]
        split <;> omega
      have hs : ¬ 200 < sizeF ((ino t n).d.length : Int) r := fun hh => c2 (by unfold chgF; rw [if_pos (.inl hk), if_pos hh]; show (10 : Int) ≠ 0; decide)
      have hch : ∀ x : Ino, x = ino t n → (chgF x r).2 = { x with d := dataF x.d r (sizeF (x.d.length : Int) r).toNat } := fun x hx => by
        subst hx; unfold chgF; rw [if_pos (.inl hk), if_neg hs]
      have hm : ((sizeF ((ino t n).d.length : Int) r).toNat : Int) = sizeF ((ino t n).d.length : Int) r := Int.toNat_of_nonneg hz0
      have hfit := sizeF_fit ho (by omega) hm.symm
      have hino : ∀ m, ino (touchF (chI t n fun x => (chgF x r).2) n) m = if m = n then tchI { ino t n with d := dataF (ino t n).d r (sizeF ((ino t n).d.length : Int) r).toNat } else ino t m := fun m => by
        unfold touchF
        rw [ino_chI _ (by rw [chI_len]; exact hr.2), ino_chI _ hr.2, if_pos rfl, hch _ rfl]
        by_cases e : m = n
        · rw [if_pos e, if_pos e]
        · rw [if_neg e, if_neg e, ino_chI _ hr.2, if_neg e]
      have hal : Alike t (touchF (chI t n fun x => (chgF x r).2) n) := by
        refine ⟨fun m => ?_, fun m => ?_, fun m => ?_, fun m => ?_⟩ <;> (rw [hino]; by_cases e : m = n) <;> first | (rw [if_pos e, e]; rfl) | rw [if_neg e]
      by_cases c3 : (valT (tr (touchF (chI t n fun x => (chgF x r).2) n))).1 ≠ 0
      · rw [if_neg (by simp), if_pos c3] at hc; exact absurd hc c3
      · rw [if_neg (by simp), if_neg c3]
        have hd := data_facts (old := (ino t n).d) hfit
        refine ⟨n, (sizeF ((ino t n).d.length : Int) r).toNat, hr.2, by omega, hrr, ?_, ?_, hfit, ?_⟩
        · rw [hal.reach]; exact hrr
        · show (ino (touchF (chI t n fun x => (chgF x r).2) n) n).d = _
          rw [hino, if_pos rfl]; rfl
        · unfold replyF
          rw [if_neg (by omega), if_neg (by omega), if_neg (by omega)]
          show ((ino (touchF (chI t n fun x => (chgF x r).2) n) ((reachF t 0 r.p 2 2).1.toNat)).d.length : Int) = _
          rw [hn, hino, if_pos rfl]
          show ((dataF (ino t n).d r (sizeF ((ino t n).d.length : Int) r).toNat).length : Int) = _
          rw [hd.1]

end Go.Proofs.YtmbbmmnpkdfecaaGreatDoor
