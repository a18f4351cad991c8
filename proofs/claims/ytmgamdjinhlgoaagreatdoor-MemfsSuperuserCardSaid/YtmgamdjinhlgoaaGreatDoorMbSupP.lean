/- The law MemfsSuperuser.
   Condition: as each theorem states; this text: MfSuper. -/
import Derived.Test.YtmgamdjinhlgoaaGreatDoorMb21

set_option linter.all false

/- A request that succeeds for a user does for user 0 what it does for that user, but for the owner of a new inode: in plain words. No program. -/
namespace Go.Proofs.YtmgamdjinhlgoaaGreatDoor
open Go.RowKit

theorem alw_sup {t : FT} {n : Nat} {u m : Int} (h : alw t n u m = true) : alw t n 0 m = true := by
  unfold alw allB at *
  rw [Bool.and_eq_true] at h ⊢
  refine ⟨?_, (dec_zero _ _ _).symm⟩
  have h1 := of_decide_eq_true h.1
  apply decide_eq_true
  clear h
  generalize (ino t n).ac = xs at *
  generalize (ino t n).o = o at *
  by_cases hv : (valF xs).1 = 0
  · cases hu : (usr o && usr u) with
    | false =>
      have e : usrF xs o u = (3, -1) := by unfold usrF; rw [if_pos ⟨hv, hu⟩]
      unfold allC at h1
      rw [e, if_neg (fun h => absurd h.1 (by decide))] at h1
      exact absurd h1 (by decide)
    | true =>
      have e : usrF xs o u = valF xs := by unfold usrF; rw [if_neg (fun h => by rw [hu] at h; cases h.2)]
      have ho : usr o = true := by rw [Bool.and_eq_true] at hu; exact hu.1
      have e0 : usrF xs o 0 = valF xs := by
        unfold usrF
        rw [if_neg (fun h => by
          have := h.2
          rw [ho] at this
          cases this)]
      unfold allC at h1 ⊢
      rw [e] at h1
      rw [e0]
      exact h1
  · have e : usrF xs o u = valF xs := by unfold usrF; rw [if_neg (fun h => hv h.1)]
    unfold allC at h1
    rw [e, if_neg (fun h => hv h.1)] at h1
    exact absurd h1 hv
theorem resP_sup {t : FT} {u : Int} : ∀ (cs : List ByteArray) (a : Pl), (resP t u cs a).2 = 0 → resP t 0 cs a = resP t u cs a
  | [], a, _ => by rw [resP, resP]
  | c :: cs, a, h => by
    rw [resP] at h
    rw [resP, resP]
    by_cases h1 : a.i = -1
    · rw [if_pos h1] at h; exact absurd h (by decide)
    · rw [if_neg h1] at h
      rw [if_neg h1, if_neg h1]
      by_cases h2 : (ino t a.i.toNat).k = 2
      · rw [if_pos h2] at h; exact absurd h (by decide)
      · rw [if_neg h2] at h
        rw [if_neg h2, if_neg h2]
        cases h3 : alw t a.i.toNat u 4 with
        | false => rw [if_pos h3] at h; exact absurd h (by decide)
        | true =>
          rw [h3, if_neg (by decide)] at h
          rw [alw_sup h3, if_neg (by decide), if_neg (by decide)]
          exact resP_sup cs _ h
theorem resolve_sup {t : FT} {u : Int} {p : ByteArray} (h : (resolveF t u p).2 = 0) : resolveF t 0 p = resolveF t u p := resP_sup _ _ h
theorem unless_zero {R : Pl × Int} (h : (unlessF R).2 = 0) : unlessF R = R ∧ R.2 = 0 := by
  unfold unlessF at h ⊢
  by_cases h1 : R.2 = 0 ∧ R.1.i = -1
  · rw [if_pos h1] at h; exact absurd (show (6 : Int) = 0 from h) (by decide)
  · rw [if_neg h1] at h ⊢; exact ⟨rfl, h⟩
theorem exist_sup {t : FT} {u : Int} {p : ByteArray} (h : (existF t u p).2 = 0) : existF t 0 p = existF t u p := by
  unfold existF at h ⊢
  rw [resolve_sup (unless_zero h).2]
theorem entry_sup {t : FT} {u : Int} {p : ByteArray} (h : (entryF t u p).2 = 0) : entryF t 0 p = entryF t u p := by
  unfold entryF at h ⊢
  by_cases h1 : (resolveF t u p).2 ≠ 0
  · rw [if_pos h1] at h; exact absurd h h1
  · rw [if_neg h1] at h
    rw [resolve_sup (by simpa using h1), if_neg h1, if_neg h1]
    by_cases h2 : (resolveF t u p).1.n = ByteArray.empty
    · rw [if_pos h2] at h; exact absurd (show (12 : Int) = 0 from h) (by decide)
    · rw [if_neg h2] at h
      rw [if_neg h2, if_neg h2]
      cases h3 : alw t (resolveF t u p).1.p u 2 with
      | false => rw [if_pos h3] at h; exact absurd (show (13 : Int) = 0 from h) (by decide)
      | true => rw [alw_sup h3, if_neg (by decide)]
theorem vacant_sup {t : FT} {u : Int} {p : ByteArray} (h : (vacantF t u p).2 = 0) : vacantF t 0 p = vacantF t u p := by
  unfold vacantF at h ⊢
  by_cases h1 : (entryF t u p).2 = 0 ∧ (entryF t u p).1.i ≠ -1
  · rw [if_pos h1] at h; exact absurd (show (7 : Int) = 0 from h) (by decide)
  · rw [if_neg h1] at h
    rw [entry_sup h]
theorem remove_sup {t : FT} {u : Int} {p : ByteArray} (h : (removeF t u p).2 = 0) : removeF t 0 p = removeF t u p := by
  unfold removeF at h ⊢
  rw [entry_sup (unless_zero h).2]
theorem reach_sup {t : FT} {u : Int} {p : ByteArray} {kind perm : Int} (h : (reachF t u p kind perm).2 = 0) : reachF t 0 p kind perm = reachF t u p kind perm := by
  unfold reachF at h ⊢
  by_cases h1 : (existF t u p).2 ≠ 0
  · rw [if_pos h1] at h; exact absurd h h1
  · rw [if_neg h1] at h
    rw [exist_sup (by simpa using h1), if_neg h1, if_neg h1]
    by_cases h2 : kind ≠ 0 ∧ kind ≠ (ino t (existF t u p).1.i.toNat).k
    · rw [if_pos h2] at h; exact absurd (show (8 : Int) = 0 from h) (by decide)
    · rw [if_neg h2] at h
      rw [if_neg h2, if_neg h2]
      by_cases h3 : perm ≠ 0 ∧ alw t (existF t u p).1.i.toNat u perm = false
      · rw [if_pos h3] at h; exact absurd (show (13 : Int) = 0 from h) (by decide)
      · have h4 : ¬ (perm ≠ 0 ∧ alw t (existF t u p).1.i.toNat 0 perm = false) := by
          rintro ⟨h4, h5⟩
          cases h6 : alw t (existF t u p).1.i.toNat u perm with
          | false => exact h3 ⟨h4, h6⟩
          | true => rw [alw_sup h6] at h5; cases h5
        rw [if_neg h3, if_neg h4]

/-- The request of user 0. -/
def Rq.sup (r : Rq) : Rq := { r with u := 0 }
/-- Two answers alike, but for the owner of inode j. -/
def AlikeP (j : Option Nat) (u : Int) (A B : (Int × Int) × FT) : Prop := A.1 = B.1 ∧ A.2.length = B.2.length ∧ ∀ m, ino A.2 m = if j = some m then { ino B.2 m with o := u } else ino B.2 m
theorem AlikeP.refl (u : Int) (A : (Int × Int) × FT) : AlikeP none u A A := ⟨rfl, rfl, fun m => by rw [if_neg (by simp)]⟩
theorem ino_chI' (t : FT) (n : Nat) (f : Ino → Ino) (m : Nat) : ino (chI t n f) m = if m = n ∧ n < t.length then f (ino t n) else ino t m := by
  by_cases h : n < t.length
  · rw [ino_chI f h]
    by_cases e : m = n
    · rw [if_pos e, if_pos ⟨e, h⟩]
    · rw [if_neg e, if_neg (fun h => e h.1)]
  · rw [if_neg (fun h' => h h'.2)]
    unfold chI
    rw [List.set_eq_of_length_le (by omega)]
theorem mkF_inv {t : FT} {r : Rq} {k : Int} (h : (mkF t r k).1.2 = 0) : (vacantF t r.u r.p).2 = 0 ∧ ¬ (ino t (vacantF t r.u r.p).1.p).es.length = 16 ∧ ¬ freN t = 40 := by
  unfold mkF at h
  by_cases h1 : (vacantF t r.u r.p).2 ≠ 0
  · rw [if_pos h1] at h; exact absurd h h1
  · rw [if_neg h1] at h
    by_cases h2 : (ino t (vacantF t r.u r.p).1.p).es.length = 16
    · rw [if_pos h2] at h; exact absurd (show (2 : Int) = 0 from h) (by decide)
    · rw [if_neg h2] at h
      by_cases h3 : freN t = 40
      · rw [if_pos h3] at h; exact absurd (show (14 : Int) = 0 from h) (by decide)
      · exact ⟨by simpa using h1, h2, h3⟩
theorem mkF_eq {t : FT} {r : Rq} {k : Int} (h1 : (vacantF t r.u r.p).2 = 0) (h2 : ¬ (ino t (vacantF t r.u r.p).1.p).es.length = 16) (h3 : ¬ freN t = 40) : mkF t r k = (((freN t : Int), 0), touchF (addF (newT t k r.u) (vacantF t r.u r.p).1.p ⟨(vacantF t r.u r.p).1.n, (freN t : Int)⟩) (vacantF t r.u r.p).1.p) := by
  unfold mkF
  rw [if_neg (show ¬ (vacantF t r.u r.p).2 ≠ 0 by simpa using h1), if_neg h2, if_neg h3]
theorem newT_ino (t : FT) (k u : Int) (p : Nat) (e : DE) (m : Nat) : ino (touchF (addF (newT t k u) p e) p) m = if m = p ∧ p < (newT t k u).length then tchI { (if p = freN t then { I0 with k := k, o := u } else ino t p) with es := insE (if p = freN t then { I0 with k := k, o := u } else ino t p : Ino).es e } else if m = freN t then { I0 with k := k, o := u } else ino t m := by
  unfold touchF addF
  rw [ino_chI', ino_chI', ino_chI', ino_newT, ino_newT]
  simp only [chI_len]
  by_cases c1 : m = p ∧ p < (newT t k u).length
  · rw [if_pos c1, if_pos c1, if_pos ⟨trivial, c1.2⟩]
  · rw [if_neg c1, if_neg c1, if_neg c1]
theorem mk_sup {t : FT} {r : Rq} {k : Int} (h : (mkF t r k).1.2 = 0) : AlikeP (some (freN t)) r.u (mkF t r k) (mkF t r.sup k) ∧ (mkF t r k).1.1 = (freN t : Int) := by
  obtain ⟨h1, h2, h3⟩ := mkF_inv h
  have hv : vacantF t r.sup.u r.sup.p = vacantF t r.u r.p := vacant_sup h1
  rw [mkF_eq h1 h2 h3, mkF_eq (r := r.sup) (by rw [hv]; exact h1) (by rw [hv]; exact h2) h3, hv]
  have hl : (newT t k r.u).length = (newT t k r.sup.u).length := by unfold newT; split <;> simp
  refine ⟨⟨rfl, ?_, fun m => ?_⟩, rfl⟩
  · simp only [touchF, addF, chI_len]
    exact hl
  · simp only
    rw [newT_ino, newT_ino, hl]
    have e0 : r.sup.u = 0 := rfl
    rw [e0]
    generalize (vacantF t r.u r.p).1.p = q
    generalize (⟨(vacantF t r.u r.p).1.n, (freN t : Int)⟩ : DE) = e
    by_cases c1 : m = q ∧ q < (newT t k 0).length
    · rw [if_pos c1, if_pos c1]
      obtain ⟨c1a, _⟩ := c1
      subst c1a
      by_cases c2 : m = freN t
      · have e9 : some (freN t) = some m := by rw [c2]
        simp only [if_pos e9, if_pos c2]
        rfl
      · have e9 : ¬ some (freN t) = some m := fun h => c2 (Option.some.inj h).symm
        simp only [if_neg e9, if_neg c2]
    · rw [if_neg c1, if_neg c1]
      by_cases c2 : m = freN t
      · have e9 : some (freN t) = some m := by rw [c2]
        simp only [if_pos e9, if_pos c2]
      · have e9 : ¬ some (freN t) = some m := fun h => c2 (Option.some.inj h).symm
        simp only [if_neg e9, if_neg c2]
theorem mk_new {t : FT} {r : Rq} {k : Int} (h : (mkF t r k).1.2 = 0) : (ino (mkF t r k).2 (freN t)).k = k ∧ (ino (mkF t r k).2 (freN t)).o = r.u := by
  obtain ⟨h1, h2, h3⟩ := mkF_inv h
  rw [mkF_eq h1 h2 h3]
  simp only
  rw [newT_ino]
  by_cases c1 : freN t = (vacantF t r.u r.p).1.p ∧ (vacantF t r.u r.p).1.p < (newT t k r.u).length
  · rw [if_pos c1, if_pos c1.1.symm]
    exact ⟨rfl, rfl⟩
  · rw [if_neg c1, if_pos rfl]
    exact ⟨rfl, rfl⟩
theorem change_sup {t : FT} {r : Rq} {kind perm : Int} (h : (changeF t r kind perm).1.2 = 0) : changeF t r.sup kind perm = changeF t r kind perm := by
  have hc : ∀ x, chgF x r.sup = chgF x r := fun x => rfl
  unfold changeF at h ⊢
  by_cases h1 : (reachF t r.u r.p kind perm).2 ≠ 0
  · rw [if_pos h1] at h; exact absurd h h1
  · have hv : reachF t r.sup.u r.sup.p kind perm = reachF t r.u r.p kind perm := reach_sup (show (reachF t r.u r.p kind perm).2 = 0 by simpa using h1)
    rw [hv]
    simp only [hc]
theorem rm_sup {t : FT} {r : Rq} (h : (rmF t r).1.2 = 0) : rmF t r.sup = rmF t r := by
  unfold rmF at h ⊢
  by_cases h1 : (removeF t r.u r.p).2 ≠ 0
  · rw [if_pos h1] at h; exact absurd h h1
  · have hv : removeF t r.sup.u r.sup.p = removeF t r.u r.p := remove_sup (show (removeF t r.u r.p).2 = 0 by simpa using h1)
    rw [hv]
theorem mv_sup {t : FT} {r : Rq} (h : (mvF t r).1.2 = 0) : mvF t r.sup = mvF t r := by
  unfold mvF at h ⊢
  by_cases h1 : (removeF t r.u r.p).2 ≠ 0
  · rw [if_pos h1] at h; exact absurd h h1
  · have hv : removeF t r.sup.u r.sup.p = removeF t r.u r.p := remove_sup (show (removeF t r.u r.p).2 = 0 by simpa using h1)
    have e1 : r.sup.p = r.p := rfl
    have e2 : r.sup.t = r.t := rfl
    rw [if_neg h1] at h
    by_cases h2 : blwB r.p r.t = true
    · rw [if_pos h2] at h; exact absurd (show (15 : Int) = 0 from h) (by decide)
    · rw [if_neg h2] at h
      by_cases h3 : (vacantF t r.u r.t).2 ≠ 0
      · rw [if_pos h3] at h; exact absurd h h3
      · have hw : vacantF t r.sup.u r.t = vacantF t r.u r.t := vacant_sup (by simpa using h3)
        rw [hv, e1, e2, hw]
theorem link_sup {t : FT} {r : Rq} (h : (linkW t r).1.2 = 0) : linkW t r.sup = linkW t r := by
  unfold linkW at h ⊢
  by_cases h1 : (reachF t r.u r.p 2 0).2 ≠ 0
  · rw [if_pos h1] at h; exact absurd h h1
  · have hv : reachF t r.sup.u r.sup.p 2 0 = reachF t r.u r.p 2 0 := reach_sup (show (reachF t r.u r.p 2 0).2 = 0 by simpa using h1)
    have e2 : r.sup.t = r.t := rfl
    rw [if_neg h1] at h
    by_cases h3 : (vacantF t r.u r.t).2 ≠ 0
    · rw [if_pos h3] at h; exact absurd h h3
    · have hw : vacantF t r.sup.u r.t = vacantF t r.u r.t := vacant_sup (by simpa using h3)
      rw [hv, e2, hw]
/-- The new inode of a request, if there is one. -/
def newJ (t : FT) (r : Rq) : Option Nat := if r.k = 1 ∨ r.k = 2 then some (freN t) else none
theorem perf_sup {t : FT} {r : Rq} (h : (perfF t r).1.2 = 0) : AlikeP (newJ t r) r.u (perfF t r) (perfF t r.sup) ∧ ((r.k = 1 ∨ r.k = 2) → (perfF t r).1.1 = (freN t : Int)) := by
  have ek : r.sup.k = r.k := rfl
  have same : ∀ A : (Int × Int) × FT, ∀ B, B = A → ¬ (r.k = 1 ∨ r.k = 2) → AlikeP (newJ t r) r.u A B ∧ ((r.k = 1 ∨ r.k = 2) → A.1.1 = (freN t : Int)) := fun A B e hk => by
    subst e
    unfold newJ
    rw [if_neg hk]
    exact ⟨AlikeP.refl _ _, fun h => absurd h hk⟩
  have q : ∀ kind perm, (reachF t r.u r.p kind perm).2 = 0 → ((reachF t r.sup.u r.sup.p kind perm, t) : (Int × Int) × FT) = (reachF t r.u r.p kind perm, t) := fun kind perm h => by
    have hv : reachF t r.sup.u r.sup.p kind perm = reachF t r.u r.p kind perm := reach_sup h
    rw [hv]
  unfold perfF at h ⊢
  rw [ek]
  by_cases hk : r.k = 1
  · rw [if_pos hk] at h ⊢
    rw [if_pos hk]
    unfold newJ
    rw [if_pos (.inl hk)]
    exact ⟨(mk_sup h).1, fun _ => (mk_sup h).2⟩
  rw [if_neg hk] at h ⊢
  rw [if_neg hk]
  by_cases hk2 : r.k = 2
  · rw [if_pos hk2] at h ⊢
    rw [if_pos hk2]
    unfold newJ
    rw [if_pos (.inr hk2)]
    exact ⟨(mk_sup h).1, fun _ => (mk_sup h).2⟩
  rw [if_neg hk2] at h ⊢
  rw [if_neg hk2]
  have hn : ¬ (r.k = 1 ∨ r.k = 2) := by rintro (h | h); exact hk h; exact hk2 h
  clear hk hk2
  by_cases hk : r.k = 3
  · rw [if_pos hk] at h ⊢; rw [if_pos hk]; exact same _ _ (q _ _ h) hn
  rw [if_neg hk] at h ⊢; rw [if_neg hk]; clear hk
  by_cases hk : r.k = 4 ∨ r.k = 5
  · rw [if_pos hk] at h ⊢; rw [if_pos hk]; exact same _ _ (change_sup h) hn
  rw [if_neg hk] at h ⊢; rw [if_neg hk]; clear hk
  by_cases hk : r.k = 6
  · rw [if_pos hk] at h ⊢; rw [if_pos hk]; exact same _ _ (q _ _ h) hn
  rw [if_neg hk] at h ⊢; rw [if_neg hk]; clear hk
  by_cases hk : r.k = 8
  · rw [if_pos hk] at h ⊢; rw [if_pos hk]; exact same _ _ (rm_sup h) hn
  rw [if_neg hk] at h ⊢; rw [if_neg hk]; clear hk
  by_cases hk : r.k = 9
  · rw [if_pos hk] at h ⊢; rw [if_pos hk]; exact same _ _ (mv_sup h) hn
  rw [if_neg hk] at h ⊢; rw [if_neg hk]; clear hk
  by_cases hk : r.k = 10
  · rw [if_pos hk] at h ⊢; rw [if_pos hk]; exact same _ _ (link_sup h) hn
  rw [if_neg hk] at h ⊢; rw [if_neg hk]; clear hk
  by_cases hk : r.k = 11 ∨ r.k = 14
  · rw [if_pos hk] at h ⊢; rw [if_pos hk]; exact same _ _ (change_sup h) hn
  rw [if_neg hk] at h ⊢; rw [if_neg hk]; clear hk
  by_cases hk : r.k = 13
  · rw [if_pos hk] at h ⊢; rw [if_pos hk]; exact same _ _ (change_sup h) hn
  rw [if_neg hk] at h ⊢; rw [if_neg hk]; clear hk
  by_cases hk : r.k = 12
  · rw [if_pos hk] at h ⊢; rw [if_pos hk]; exact same _ _ (change_sup h) hn
  rw [if_neg hk] at h ⊢; rw [if_neg hk]; clear hk
  exact same _ _ (q _ _ h) hn

/-! ## A valid tree stays valid when user 0 owns an inode -/
/-- The tree s is t but for some owners, which are user 0. -/
structure OwnLike (t s : Tr) : Prop where
  len : s.length = t.length
  at_ : ∀ n, nod s n = { nod t n with o := (nod s n).o }
  ok : ∀ n, (nod s n).o = (nod t n).o ∨ ((nod t n).k ≠ 0 ∧ (nod s n).o = 0)
theorem OwnLike.kids {t s : Tr} (h : OwnLike t s) (n : Nat) : kids s n = kids t n := by unfold Go.Proofs.YtmgamdjinhlgoaaGreatDoor.kids; rw [h.at_ n]
theorem OwnLike.used {t s : Tr} (h : OwnLike t s) (i : Int) : used s i = used t i := by unfold Go.Proofs.YtmgamdjinhlgoaaGreatDoor.used; rw [h.len, h.at_ i.toNat]
theorem OwnLike.codeDs {t s : Tr} (h : OwnLike t s) : ∀ (es : List DE) (p : ByteArray), codeDs s p es = codeDs t p es
  | [], p => rfl
  | e :: r, p => by
    have e1 : codeD s p e = codeD t p e := by unfold codeD; rw [h.used]
    rw [Go.Proofs.YtmgamdjinhlgoaaGreatDoor.codeDs, Go.Proofs.YtmgamdjinhlgoaaGreatDoor.codeDs, e1, h.codeDs r e.n]
theorem OwnLike.codeN {t s : Tr} (h : OwnLike t s) {n : Nat} (h0 : codeN t (nod t n) = 0) : codeN s (nod s n) = 0 := by
  have ha := h.at_ n
  rcases h.ok n with h1 | ⟨h1, h2⟩
  · rw [h1] at ha
    have e : nod s n = nod t n := ha
    rw [e]
    unfold Go.Proofs.YtmgamdjinhlgoaaGreatDoor.codeN at h0 ⊢
    unfold codeEs at h0 ⊢
    rw [h.codeDs]
    exact h0
  · rw [h2] at ha
    rw [ha]
    unfold Go.Proofs.YtmgamdjinhlgoaaGreatDoor.codeN at h0 ⊢
    simp only
    rw [if_neg h1] at h0 ⊢
    by_cases hk : (nod t n).k = 1 ∨ (nod t n).k = 2
    · rw [if_pos hk] at h0 ⊢
      obtain ⟨c1, c2, c3, c4⟩ := or4_zero h0
      have d1 : codeC { nod t n with o := 0 } = 0 := by
        unfold codeC at c1 ⊢
        simp only
        by_cases g1 : ¬ (0 ≤ (nod t n).o ∧ (nod t n).o ≤ 7) ∨ ¬ (0 ≤ (nod t n).v ∧ (nod t n).v ≤ 1000000) ∨ ¬ (0 ≤ (nod t n).q ∧ (nod t n).q ≤ 100000)
        · rw [if_pos g1] at c1; exact absurd c1 (by decide)
        · rw [if_neg g1] at c1
          rw [if_neg (by
            rintro (g | g)
            · exact g ⟨by decide, by decide⟩
            · exact g1 (.inr g))]
          exact c1
      have d4 : codeEs s (nod t n).es = 0 := by
        unfold codeEs at c4 ⊢; rw [h.codeDs]; exact c4
      unfold or4
      rw [d1, c2, c3, d4]; rfl
    · rw [if_neg hk] at h0; exact absurd h0 (by decide)
theorem OwnLike.refs {t s : Tr} (h : OwnLike t s) (n : Nat) : refs s n = refs t n := by
  unfold Go.Proofs.YtmgamdjinhlgoaaGreatDoor.refs
  have e : s.flatMap (·.es) = t.flatMap (·.es) := by
    have e1 : s.map (·.es) = t.map (·.es) := by
      apply List.ext_getElem
      · simp [h.len]
      · intro i h1 h2
        rw [List.getElem_map, List.getElem_map]
        have h3 : i < s.length := by simpa using h1
        have h4 : i < t.length := by simpa using h2
        rw [← nod_at h3, ← nod_at h4, h.at_ i]
    rw [List.flatMap_def, List.flatMap_def, e1]
  rw [e]
theorem OwnLike.dfs {t s : Tr} (h : OwnLike t s) : ∀ (d : Nat) (xs : List ByteArray) (n : Nat), dfs s d xs n = dfs t d xs n
  | 0, _, _ => rfl
  | d + 1, xs, n => by
    rw [Go.Proofs.YtmgamdjinhlgoaaGreatDoor.dfs, Go.Proofs.YtmgamdjinhlgoaaGreatDoor.dfs, h.kids]
    congr 1
    congr 1
    funext e
    exact h.dfs d _ _
theorem OwnLike.visits {t s : Tr} (h : OwnLike t s) (n : Nat) : visits s n = visits t n := by
  unfold Go.Proofs.YtmgamdjinhlgoaaGreatDoor.visits sub; rw [h.dfs, h.len]
theorem OwnLike.usg {t s : Tr} (h : OwnLike t s) (L : List Vis) : usg s L = usg t L := by
  unfold Go.Proofs.YtmgamdjinhlgoaaGreatDoor.usg
  rw [h.len]
  congr 1
  apply List.map_congr_left
  intro i _
  rw [h.at_ i]
theorem OwnLike.valid {t s : Tr} (h : OwnLike t s) (hv : (valT t).1 = 0) : (valT s).1 = 0 := by
  obtain ⟨hd, p⟩ := valT_ok hv
  have hd2 : Head s := ⟨by rw [h.len]; exact hd.ne, by rw [h.len]; exact hd.le, by rw [h.at_ 0]; exact hd.root⟩
  have p2 : Pass s 4 := fun j hj n hn => by
    rw [h.len] at hn
    have := p j hj n hn
    match j, hj with
    | 0, _ => exact h.codeN this
    | 1, _ =>
      show codeLk s n = 0
      have h1 : codeLk t n = 0 := this
      unfold codeLk at h1 ⊢
      rw [h.refs, h.at_ n]
      exact h1
    | 2, _ =>
      show codeP s n = 0
      have h1 : codeP t n = 0 := this
      unfold codeP at h1 ⊢
      rw [h.visits, h.at_ n]
      exact h1
    | 3, _ =>
      show codeQ s n = 0
      have h1 : codeQ t n = 0 := this
      unfold codeQ at h1 ⊢
      rw [h.visits, h.usg, h.at_ n]
      exact h1
  rw [valT_miss hd2 p2]
theorem AlikeP.own {j : Option Nat} {u : Int} {A B : (Int × Int) × FT} (h : AlikeP j u A B) (hj : ∀ n, j = some n → (ino B.2 n).k ≠ 0 ∧ (ino B.2 n).o = 0) : OwnLike (tr A.2) (tr B.2) := by
  refine ⟨by rw [tr_len, tr_len, h.2.1], fun n => ?_, fun n => ?_⟩
  · rw [nod_tr, nod_tr, h.2.2 n]
    by_cases e : j = some n
    · rw [if_pos e]; rfl
    · rw [if_neg e]
  · rw [nod_tr, nod_tr, h.2.2 n]
    by_cases e : j = some n
    · rw [if_pos e]; exact .inr ⟨(hj n e).1, (hj n e).2⟩
    · rw [if_neg e]; exact .inl rfl

theorem perf_new {t : FT} {r : Rq} (h : (perfF t r.sup).1.2 = 0) : ∀ n, newJ t r = some n → (ino (perfF t r.sup).2 n).k ≠ 0 ∧ (ino (perfF t r.sup).2 n).o = 0 := by
  intro n hn
  have ek : r.sup.k = r.k := rfl
  unfold newJ at hn
  by_cases hk : r.k = 1 ∨ r.k = 2
  · rw [if_pos hk] at hn
    obtain rfl := Option.some.inj hn
    rcases hk with hk | hk
    · unfold perfF at h ⊢
      rw [ek, if_pos hk] at h ⊢
      have := mk_new h
      exact ⟨by rw [this.1]; decide, this.2⟩
    · unfold perfF at h ⊢
      rw [ek, if_neg (by rw [hk]; decide), if_pos hk] at h ⊢
      have := mk_new h
      exact ⟨by rw [this.1]; decide, this.2⟩
  · rw [if_neg hk] at hn; cases hn
/-- What user 0 gets where another user succeeds. -/
theorem apply_sup {t : FT} {r : Rq} (h : (applyF t r).2.c = 0) :
    (applyF t r.sup).2.c = 0 ∧ (applyF t r).1.length = (applyF t r.sup).1.length ∧ (∀ m, ino (applyF t r).1 m = if newJ t r = some m then { ino (applyF t r.sup).1 m with o := r.u } else ino (applyF t r.sup).1 m) ∧ ((r.k = 1 ∨ r.k = 2) → (applyF t r).2.s.i = (freN t : Int)) := by
  unfold applyF at h ⊢
  by_cases h1 : (perfF t r).1.2 = 0
  · have n1 : ¬ (perfF t r).1.2 ≠ 0 := by simpa using h1
    rw [if_neg n1] at h
    by_cases h2 : (valT (tr (perfF t r).2)).1 = 0
    · have n2 : ¬ (valT (tr (perfF t r).2)).1 ≠ 0 := by simpa using h2
      obtain ⟨hp, hn⟩ := perf_sup h1
      have h3 : (perfF t r.sup).1.2 = 0 := by rw [← hp.1]; exact h1
      have h4 : (valT (tr (perfF t r.sup).2)).1 = 0 := (hp.own (perf_new h3)).valid h2
      have n3 : ¬ (perfF t r.sup).1.2 ≠ 0 := by simpa using h3
      have n4 : ¬ (valT (tr (perfF t r.sup).2)).1 ≠ 0 := by simpa using h4
      rw [if_neg n1, if_neg n2, if_neg n3, if_neg n4]
      refine ⟨?_, hp.2.1, hp.2.2, fun hk => ?_⟩
      · unfold replyF
        have ek : r.sup.k = r.k := rfl
        rw [ek]
        split
        · rfl
        · split
          · rfl
          · split <;> rfl
      · have h5 := hn hk
        rw [h5, Int.toNat_natCast]
        unfold replyF
        rw [if_neg (by rcases hk with hk | hk <;> rw [hk] <;> decide), if_neg (by rcases hk with hk | hk <;> rw [hk] <;> decide), if_neg (by rcases hk with hk | hk <;> rw [hk] <;> decide)]
        rfl
    · rw [if_pos h2] at h; exact absurd h h2
  · rw [if_pos h1] at h; exact absurd h h1

end Go.Proofs.YtmgamdjinhlgoaaGreatDoor
