/- What a law of package memfs or of its neighbours needs, at the translation of this seat.
   Condition: as each theorem states; this text: QrWrite. -/
import Derived.Test.YtmbbmmnpkdfecaaGreatDoorMb34
import Derived.Test.YtmbbmmnpkdfecaaGreatDoorMqA

set_option linter.all false

/- A write of user 0 behind the end of a file: it is answered without an error if and only if the file may grow so far. In plain words. No program. -/

set_option linter.all false
namespace Go.Proofs.YtmbbmmnpkdfecaaGreatDoor
open Go.RowKit

/-- t' is t but for the size and the version of the file n. -/
structure Wr (t t' : Tr) (n s : Nat) : Prop where
  len : t'.length = t.length
  lt : n < t.length
  hk : (nod t n).k = 2
  hs : s ≤ 200
  at_ : ∃ v : Int, 0 ≤ v ∧ v ≤ 1000000 ∧ ∀ j, nod t' j = if j = n then { nod t n with dl := s, v := v } else nod t j
section
variable {t t' : Tr} {n s : Nat}
theorem Wr.kids_ (h : Wr t t' n s) (m : Nat) : kids t' m = kids t m := by
  obtain ⟨v, _, _, ha⟩ := h.at_
  unfold kids; rw [ha]; split
  · rename_i e; rw [e]
  · rfl
theorem Wr.k_ (h : Wr t t' n s) (m : Nat) : (nod t' m).k = (nod t m).k := by
  obtain ⟨v, _, _, ha⟩ := h.at_
  rw [ha]; split
  · rename_i e; rw [e]
  · rfl
theorem Wr.q_ (h : Wr t t' n s) (m : Nat) : (nod t' m).q = (nod t m).q := by
  obtain ⟨v, _, _, ha⟩ := h.at_
  rw [ha]; split
  · rename_i e; rw [e]
  · rfl
theorem Wr.dl_ (h : Wr t t' n s) (m : Nat) : (nod t' m).dl = (nod (reSize t n s) m).dl := by
  obtain ⟨v, _, _, ha⟩ := h.at_
  rw [ha, nod_re h.lt]; split <;> rfl
theorem Wr.used_ (h : Wr t t' n s) : used t' = used t := by
  funext i
  unfold used
  rw [h.len, h.k_]
theorem Wr.dfs_ (h : Wr t t' n s) : ∀ (d : Nat) (xs : List ByteArray) (m : Nat), dfs t' d xs m = dfs t d xs m
  | 0, _, _ => rfl
  | d + 1, xs, m => by
    unfold dfs
    rw [h.kids_]
    congr 1
    congr 1
    funext e
    exact h.dfs_ d _ _
theorem Wr.visits_ (h : Wr t t' n s) (m : Nat) : visits t' m = visits t m := by
  unfold visits sub; rw [h.len]; exact h.dfs_ _ _ _
theorem Wr.rch_ (h : Wr t t' n s) {b m : Nat} {xs : List ByteArray} : Rch t' b xs m ↔ Rch t b xs m := by
  constructor
  · intro hr
    induction hr with
    | nil => exact .nil
    | snoc _ he ih => rw [h.kids_] at he; exact .snoc ih he
  · intro hr
    induction hr with
    | nil => exact .nil
    | snoc _ he ih => rw [← h.kids_] at he; exact .snoc ih he
theorem Wr.refs_ (h : Wr t t' n s) (m : Nat) : refs t' m = refs t m := by
  rw [refs_sum (t := t') (L := t.length) (by rw [h.len]; exact Nat.le_refl _), refs_sum (t := t) (Nat.le_refl _)]
  simp only [h.kids_]
theorem Wr.sv (h : Wr t t' n s) (hs : Sv t) : Sv t' := by
  refine ⟨by rw [h.len]; exact hs.ne, by rw [h.len]; exact hs.le, by rw [h.k_]; exact hs.root, fun m hm => ?_, fun m hm hk h0 => ?_, fun m hm hk => ?_, fun m hm hk => ?_⟩
  · rw [h.len] at hm
    obtain ⟨v, v0, v1, ha⟩ := h.at_
    rw [h.used_, ha]
    have h2 := hs.ok m hm
    have hk2 := h.hk
    split
    · rename_i e
      subst e
      exact ⟨fun h0 => by simp only at h0; omega, h2.kind, h2.o0, h2.o7, v0, v1, h2.q0, h2.q1, fun h0 => by simp only at h0; omega, h2.file, h.hs, h2.ac, h2.xs, h2.len, h2.ent, h2.srt⟩
    · exact h2
  · rw [h.len] at hm; rw [h.k_] at hk; rw [h.refs_]; exact hs.one m hm hk h0
  · rw [h.len] at hm; rw [h.k_] at hk; rw [h.refs_]; exact hs.some m hm hk
  · rw [h.len] at hm; rw [h.k_] at hk
    obtain ⟨xs, hx⟩ := hs.rch m hm hk
    exact ⟨xs, h.rch_.2 hx⟩
theorem Wr.usg_ (h : Wr t t' n s) (i : Nat) : usg t' (visits t' i) = usgN (reSize t n s) i := by
  unfold usgN usg
  rw [h.visits_, visits_re h.lt, h.len, re_len]
  simp only [h.dl_]
/-- What the tree's check says behind the write. -/
theorem Wr.val (h : Wr t t' n s) (hv : Vd t) (hsz : (nod t n).dl ≤ s) : (valT t').1 = if ∀ p ∈ qL t n t.length, ((s - (nod t n).dl : Nat) : Int) ≤ p.2 then 0 else 14 := by
  have sv := h.sv hv.toSv
  have hf : ¬ Far t' := fun ⟨xs, m, hr, ht⟩ => hv.near ⟨xs, m, h.rch_.1 hr, ht⟩
  have hfit : ∀ i, i < t.length → (nod t i).q ≠ 0 → (usgN t i : Int) ≤ (nod t i).q := fun i hi hq => by
    by_cases e : (nod t i).q < (usg t (visits t i) : Int)
    · exact absurd ⟨i, hi, hq, e⟩ hv.fits
    · unfold usgN; omega
  by_cases ho : Over t'
  · rw [sv.val_over hf ho, if_neg]
    intro hall
    obtain ⟨i, hi, hq, hlt⟩ := ho
    rw [h.len] at hi
    rw [h.q_] at hq hlt
    rw [h.usg_] at hlt
    have hu := usgN_re (s := s) h.lt i
    have hf2 := hfit i hi hq
    by_cases hh : hasL (visits t i) n = true
    · have := hall (i, room t i) (qL_mem.2 ⟨hi, by unfold qOn; simp [hq, hh], rfl⟩)
      rw [if_pos hh] at hu
      unfold room at this
      simp only at this
      omega
    · rw [if_neg hh] at hu
      omega
  · have h0 : (valT t').1 = 0 := by rw [sv.val_ok hf ho]
    rw [h0, if_pos]
    intro p hp
    obtain ⟨hi, hon, hr⟩ := qL_mem.1 hp
    unfold qOn at hon
    simp at hon
    by_cases e : ((s - (nod t n).dl : Nat) : Int) ≤ p.2
    · exact e
    · exfalso
      refine ho ⟨p.1, by rw [h.len]; exact hi, by rw [h.q_]; exact hon.1, ?_⟩
      rw [h.q_, h.usg_]
      have hu := usgN_re (s := s) h.lt p.1
      rw [if_pos hon.2] at hu
      rw [hr] at e
      unfold room at e
      omega
end

/-! ## User 0 -/
theorem alw_zero {t : FT} (hv : Sv (tr t)) {n : Nat} {m : Int} (hm : prm m = true) : alw t n 0 m = true := by
  have hk := hv.node n
  rw [nod_tr] at hk
  unfold alw allB
  rw [Bool.and_eq_true]
  refine ⟨decide_eq_true ?_, (dec_zero _ _ _).symm⟩
  have hac : (valF (ino t n).ac).1 = 0 := hk.ac
  have ho : usr (ino t n).o = true := by
    have h1 : 0 ≤ (ino t n).o := hk.o0
    have h2 : (ino t n).o ≤ 7 := hk.o7
    unfold usr; simp; omega
  have e0 : usrF (ino t n).ac (ino t n).o 0 = valF (ino t n).ac := by
    unfold usrF
    rw [if_neg (fun h => by
      have := h.2
      rw [ho] at this
      cases this)]
  unfold allC
  rw [e0, if_neg (fun h => by rw [hm] at h; cases h.2)]
  exact hac
theorem res_zero {t : FT} (hv : Sv (tr t)) {m : Nat} : ∀ (xs : List ByteArray) (n i : Nat) (a : Pl), a.i = (n : Int) → resT (tr t) xs n i = (m, 0, 0) ∨ (∃ j, resT (tr t) xs n i = (m, 0, j)) → (nod (tr t) n).k ≠ 0 → (resP t 0 xs a).2 = 0 ∧ (resP t 0 xs a).1.i = (m : Int)
  | [], n, i, a, ha, hr, _ => by
    rw [resP]
    have e : n = m := by
      rcases hr with hr | ⟨j, hr⟩
      · rw [resT] at hr; injection hr
      · rw [resT] at hr; injection hr
    exact ⟨rfl, by rw [ha, e]⟩
  | x :: xs, n, i, a, ha, hr, hk0 => by
    have hr2 : ∃ j, resT (tr t) (x :: xs) n i = (m, 0, j) := by
      rcases hr with hr | hr
      · exact ⟨0, hr⟩
      · exact hr
    obtain ⟨j, hr⟩ := hr2
    rw [resT] at hr
    by_cases h1 : (nod (tr t) n).k = 2
    · rw [if_pos h1] at hr; injection hr with _ h9; injection h9 with h9 _; exact absurd h9 (by decide)
    · rw [if_neg h1] at hr
      by_cases h2 : fndE (kids (tr t) n) x = true
      · rw [if_pos h2] at hr
        obtain ⟨_, k2, k3, k4⟩ := kid_found hv.ok1 (n := n) (x := x) h2
        have hes : kids (tr t) n = (ino t n).es := kids_tr t n
        rw [hes] at h2 k2 k3 k4 hr
        have hki : (ino t n).k ≠ 2 := by rw [nod_tr] at h1; exact h1
        rw [resP, if_neg (by rw [ha]; omega), if_neg (by rw [ha]; exact hki), if_neg (by rw [ha, Int.toNat_natCast, alw_zero hv (by decide)]; simp)]
        refine res_zero hv xs _ (i + 1) _ ?_ (.inr ⟨j, hr⟩) k4
        rw [ha, Int.toNat_natCast]
        unfold lookE
        rw [if_pos h2]
        simp only
        omega
      · rw [if_neg h2] at hr; injection hr with _ h9; injection h9 with h9 _; exact absurd h9 (by decide)

/-- The request: k bytes behind the file's end. -/
def wrq (p : ByteArray) (off k : Nat) : Rq := ⟨4, 0, p, ByteArray.empty, (off : Int), 0, zerosB k, [], A0⟩
theorem dataF_len (old : List UInt8) (p : ByteArray) (k : Nat) (hk : 0 < k) : (dataF old (wrq p old.length k) (old.length + k)).length = old.length + k := by
  unfold dataF wrq
  simp only
  have hz : (zerosB k).length = k := by unfold zerosB; simp
  have hz2 : (zerosB (old.length + k)).length = old.length + k := by unfold zerosB; simp
  rw [if_neg (by omega)]
  unfold splice
  simp only [List.length_append, List.length_take, List.length_drop, Int.toNat_natCast, hz, hz2]
  omega
theorem write_reply {t : FT} (hv : (valT (tr t)).1 = 0) {p : ByteArray} {n k : Nat} (hl : (lookF (tr t) p).1 = n) (hl2 : (lookF (tr t) p).2.1 = 0) (hk2 : (nod (tr t) n).k = 2) (hk : 0 < k) (hk200 : k ≤ 200) :
    rqC (wrq p (ino t n).d.length k) = 0 ∧ ((applyF t (wrq p (ino t n).d.length k)).2.c = 0 ∧ (k : Int) ≤ remF (tr t) n (tr t).length ∨ ((applyF t (wrq p (ino t n).d.length k)).2.c = 10 ∨ (applyF t (wrq p (ino t n).d.length k)).2.c = 14) ∧ ¬ (k : Int) ≤ remF (tr t) n (tr t).length) := by
  have vd := vd_of hv
  have sv := vd.toSv
  have hsp : (splitF p).1 = 0 := by
    by_cases e : (splitF p).1 = 0
    · exact e
    · rw [lookF_split hv e] at hl2; exact absurd hl2 e
  rw [lookF_res hv hsp] at hl hl2
  simp only at hl hl2
  have hn : n < t.length := by
    rcases Nat.lt_or_ge n t.length with h | h
    · exact h
    · rw [nod_past (by rw [tr_len]; exact h)] at hk2; exact absurd hk2 (by decide)
  have hdl : (nod (tr t) n).dl = (ino t n).d.length := by rw [nod_tr]; rfl
  have hd200 : (ino t n).d.length ≤ 200 := by rw [← hdl]; exact (sv.ok1.fine n).dl
  have hres := res_zero sv (m := n) (splitL p) 0 0 P0 rfl (.inr ⟨_, by rw [← hl, ← hl2]⟩) (by rw [sv.root]; decide)
  have hex : (existF t 0 p).2 = 0 ∧ (existF t 0 p).1.i = (n : Int) := by
    unfold existF unlessF resolveF
    rw [if_neg (fun h => by have := h.2; rw [hres.2] at this; omega)]
    exact hres
  have hki : (ino t n).k = 2 := by rw [nod_tr] at hk2; exact hk2
  have hre : reachF t 0 p 2 2 = ((n : Int), 0) := by
    unfold reachF
    rw [if_neg (by rw [hex.1]; simp), hex.2, Int.toNat_natCast, if_neg (by rw [hki]; simp), if_neg (by rw [alw_zero sv (by decide)]; simp)]
  have hrl : (wrq p (ino t n).d.length k).d.length = k := by unfold wrq zerosB; simp
  have hrem := rem_fold (qL (tr t) n (tr t).length) (200 - (nod (tr t) n).dl) (k : Int)
  have hsz : sizeF ((ino t n).d.length : Int) (wrq p (ino t n).d.length k) = ((ino t n).d.length : Int) + k := by
    unfold sizeF
    rw [if_neg (show ¬ (wrq p (ino t n).d.length k).k = 5 from by show ¬ (4 : Int) = 5; decide), if_neg (by omega), hrl]
    show max ((ino t n).d.length : Int) (((ino t n).d.length : Int) + k) = _
    omega
  refine ⟨?_, ?_⟩
  · have hz : (zerosB k).length = k := by unfold zerosB; simp
    unfold rqC
    have hkn : knownB (wrq p (ino t n).d.length k).k = true := by show knownB 4 = true; decide
    have hus : usrB (wrq p (ino t n).d.length k).u = true := by show usrB 0 = true; decide
    have hbl : blankB (wo (wrq p (ino t n).d.length k)) = true := by unfold wo; rw [if_neg (show ¬ (wrq p (ino t n).d.length k).k = 3 from by show ¬ (4 : Int) = 3; decide), if_pos (show (wrq p (ino t n).d.length k).k = 4 from rfl)]; rfl
    have hpa : pathB (wrq p (ino t n).d.length k).p = true := by show pathB p = true; unfold pathB; simpa using hsp
    have htw : twoB (wrq p (ino t n).d.length k).k = false := by show twoB 4 = false; decide
    have hof : offB (wrq p (ino t n).d.length k).off = true := by show offB ((ino t n).d.length : Int) = true; unfold offB; simp; omega
    have hszb : szB (wrq p (ino t n).d.length k).k (wrq p (ino t n).d.length k).sz = true := by show szB 4 0 = true; decide
    rw [hkn, hus, hbl, hpa, htw, hof, hszb, hrl]
    simp only [Bool.true_eq_false, if_false, Bool.false_eq_true, false_and]
    rw [if_neg (by omega), if_neg (show ¬ (valF (wrq p (ino t n).d.length k).ac).1 ≠ 0 from by show ¬ (valF []).1 ≠ 0; decide), if_neg (show ¬ (wrq p (ino t n).d.length k).k = 12 from by show ¬ (4 : Int) = 12; decide)]
  · have hpf : perfF t (wrq p (ino t n).d.length k) = changeF t (wrq p (ino t n).d.length k) 2 2 := by
      unfold perfF
      rw [if_neg (show ¬ (wrq p (ino t n).d.length k).k = 1 from by show ¬ (4 : Int) = 1; decide), if_neg (show ¬ (wrq p (ino t n).d.length k).k = 2 from by show ¬ (4 : Int) = 2; decide), if_neg (show ¬ (wrq p (ino t n).d.length k).k = 3 from by show ¬ (4 : Int) = 3; decide), if_pos (.inl rfl)]
    have hch : chgF (ino t n) (wrq p (ino t n).d.length k) = if 200 < ((ino t n).d.length : Int) + k then (10, ino t n) else (0, { ino t n with d := dataF (ino t n).d (wrq p (ino t n).d.length k) ((ino t n).d.length + k) }) := by
      unfold chgF
      rw [if_pos (.inl rfl), hsz]
      have : (((ino t n).d.length : Int) + (k : Int)).toNat = (ino t n).d.length + k := by omega
      rw [this]
    have hcf : changeF t (wrq p (ino t n).d.length k) 2 2 = if 200 < ((ino t n).d.length : Int) + k then ((0, 10), t) else (((n : Int), 0), touchF (chI t n (fun x => (chgF x (wrq p (ino t n).d.length k)).2)) n) := by
      unfold changeF
      have hu : (wrq p (ino t n).d.length k).u = 0 := rfl
      have hp : (wrq p (ino t n).d.length k).p = p := rfl
      rw [hu, hp, hre]
      simp only [Int.toNat_natCast]
      rw [if_neg (by simp), hch]
      by_cases h2 : 200 < ((ino t n).d.length : Int) + k
      · rw [if_pos h2, if_pos h2, if_pos (show (10 : Int) ≠ 0 by decide)]
      · rw [if_neg h2, if_neg h2, if_neg (show ¬ (0 : Int) ≠ 0 by decide)]
    have hr2 : (k : Int) ≤ remF (tr t) n (tr t).length ↔ (k : Int) ≤ 200 - ((ino t n).d.length : Int) ∧ ∀ q ∈ qL (tr t) n (tr t).length, (k : Int) ≤ q.2 := by
      rw [← hdl]; exact hrem
    by_cases h2 : 200 < ((ino t n).d.length : Int) + k
    · rw [if_pos h2] at hcf
      right
      refine ⟨.inl ?_, fun h => ?_⟩
      · unfold applyF
        rw [hpf, hcf, if_pos (show (10 : Int) ≠ 0 by decide)]
      · have := (hr2.1 h).1; omega
    · rw [if_neg h2] at hcf hch
      have hino : ∀ j, ino (touchF (chI t n (fun x => (chgF x (wrq p (ino t n).d.length k)).2)) n) j = if j = n then tchI { ino t n with d := dataF (ino t n).d (wrq p (ino t n).d.length k) ((ino t n).d.length + k) } else ino t j := fun j => by
        unfold touchF
        rw [ino_chI _ (by rw [chI_len]; exact hn), ino_chI _ hn, ino_chI _ hn, if_pos rfl, hch]
        by_cases e : j = n
        · rw [if_pos e, if_pos e]
        · rw [if_neg e, if_neg e, if_neg e]
      have wr : Wr (tr t) (tr (touchF (chI t n (fun x => (chgF x (wrq p (ino t n).d.length k)).2)) n)) n ((ino t n).d.length + k) := by
        refine ⟨by rw [tr_len, tr_len]; unfold touchF; rw [chI_len, chI_len], by rw [tr_len]; exact hn, hk2, by omega, min ((ino t n).v + 1) 1000000, ?_, by omega, fun j => ?_⟩
        · have := (sv.node n).v0
          rw [nod_tr] at this
          have h9 : 0 ≤ (ino t n).v := this
          omega
        · rw [nod_tr, hino, nod_tr, nod_tr]
          by_cases e : j = n
          · rw [if_pos e, if_pos e]
            unfold tchI Ino.nod
            simp only [dataF_len _ _ _ hk]
          · rw [if_neg e, if_neg e]
      have hval := wr.val vd (by rw [hdl]; omega)
      rw [hdl, show (ino t n).d.length + k - (ino t n).d.length = k by omega] at hval
      by_cases h3 : ∀ q ∈ qL (tr t) n (tr t).length, (k : Int) ≤ q.2
      · rw [if_pos h3] at hval
        left
        refine ⟨?_, hr2.2 ⟨by omega, h3⟩⟩
        unfold applyF
        rw [hpf, hcf, if_neg (by simp), if_neg (by simp only; rw [hval]; simp)]
        unfold replyF
        rw [if_neg (show ¬ (wrq p (ino t n).d.length k).k = 3 from by show ¬ (4 : Int) = 3; decide), if_neg (show ¬ (wrq p (ino t n).d.length k).k = 6 from by show ¬ (4 : Int) = 6; decide), if_neg (show ¬ (wrq p (ino t n).d.length k).k = 8 from by show ¬ (4 : Int) = 8; decide)]
      · rw [if_neg h3] at hval
        right
        refine ⟨.inr ?_, fun h => h3 (hr2.1 h).2⟩
        unfold applyF
        rw [hpf, hcf, if_neg (by simp), if_pos (by simp only; rw [hval]; decide)]
        exact hval

end Go.Proofs.YtmbbmmnpkdfecaaGreatDoor
