/- What a law of package memfs or of its neighbours needs, at the translation of this seat.
   Condition: as each theorem states; this text: HlFollow0. -/
import Derived.Test.YtmbbmmnpkdfecaaGreatDoorMb21

set_option linter.all false

/- How many names each inode has behind a request, in plain words. No program. -/

set_option linter.all false
namespace Go.Proofs.YtmbbmmnpkdfecaaGreatDoor
open Go.RowKit

def cE (es : List DE) (m : Nat) : Nat := es.countP fun e => decide (e.i = (m : Int))
def oneIf (i : Int) (m : Nat) : Nat := if i = (m : Int) then 1 else 0
theorem refs_sumH (t : FT) (m : Nat) : refs (tr t) m = (t.map fun x => cE x.es m).sum := by
  unfold refs tr
  rw [List.countP_flatMap, List.map_map]
  rfl
theorem sum_setH : ∀ (l : List Nat) (n : Nat) (h : n < l.length) (v : Nat), (l.set n v).sum + l[n] = l.sum + v
  | [], n, h, v => by simp at h
  | x :: l, 0, h, v => by simp; omega
  | x :: l, n + 1, h, v => by
    have := sum_setH l n (by simpa using h) v
    simp only [List.set_cons_succ, List.sum_cons, List.getElem_cons_succ]
    omega
theorem refs_set {t : FT} {n : Nat} (hn : n < t.length) (x : Ino) (m : Nat) : refs (tr (t.set n x)) m + cE (ino t n).es m = refs (tr t) m + cE x.es m := by
  rw [refs_sumH, refs_sumH, List.map_set]
  have := sum_setH (t.map fun x => cE x.es m) n (by simpa using hn) (cE x.es m)
  rw [List.getElem_map, ← ino_at hn] at this
  exact this
theorem refs_chI {t : FT} {n : Nat} (hn : n < t.length) (f : Ino → Ino) (m : Nat) : refs (tr (chI t n f)) m + cE (ino t n).es m = refs (tr t) m + cE (f (ino t n)).es m := refs_set hn _ m
theorem refs_sameH (t : FT) (n : Nat) (f : Ino → Ino) (hf : (f (ino t n)).es = (ino t n).es) (m : Nat) : refs (tr (chI t n f)) m = refs (tr t) m := by
  rcases Nat.lt_or_ge n t.length with hn | hn
  · have := refs_chI hn f m
    rw [hf] at this; omega
  · unfold chI; rw [List.set_eq_of_length_le hn]
theorem refs_touch (t : FT) (n m : Nat) : refs (tr (touchF t n)) m = refs (tr t) m := refs_sameH t n tchI rfl m
theorem cE_ins (es : List DE) (e : DE) (m : Nat) : cE (insE es e) m = cE es m + oneIf e.i m := by
  unfold cE oneIf
  rw [(insE_perm es e).countP_eq, List.countP_cons]
  simp
theorem cE_del {es : List DE} {nm : ByteArray} (h : lowE es nm < es.length) (m : Nat) : cE (delE es nm) m + oneIf (es.getD (lowE es nm) D0).i m = cE es m := by
  have e : es = es.take (lowE es nm) ++ es.getD (lowE es nm) D0 :: es.drop (lowE es nm + 1) := by
    rw [List.getD_eq_getElem?_getD, List.getElem?_eq_getElem h]
    simp
  unfold delE cE oneIf
  conv => rhs; rw [e]
  rw [List.countP_append, List.countP_append, List.countP_cons]
  simp only [decide_eq_true_eq]
  omega
theorem refs_add {t : FT} {p : Nat} (hp : p < t.length) (e : DE) (m : Nat) : refs (tr (addF t p e)) m = refs (tr t) m + oneIf e.i m := by
  have := refs_chI hp (fun x => { x with es := insE x.es e }) m
  simp only [cE_ins] at this
  show refs (tr (chI t p _)) m = _
  omega
theorem refs_tak {t : FT} {p : Nat} (hp : p < t.length) {nm : ByteArray} (h : lowE (ino t p).es nm < (ino t p).es.length) (m : Nat) : refs (tr (takF t p nm)) m + oneIf ((ino t p).es.getD (lowE (ino t p).es nm) D0).i m = refs (tr t) m := by
  have := refs_chI hp (fun x => { x with es := delE x.es nm }) m
  have e := cE_del h m
  simp only at this
  show refs (tr (chI t p _)) m + _ = _
  omega
theorem free_es {t : FT} (h1 : Ok1 (tr t)) {n : Nat} (hk : (ino t n).k = 0) : (ino t n).es = [] := by
  cases he : (ino t n).es with
  | nil => rfl
  | cons e l =>
    have hm : e ∈ kids (tr t) n := by rw [kids_tr, he]; exact List.mem_cons_self ..
    have := (h1.kid hm).2.2.2.2
    rw [nod_tr] at this
    exact absurd (hk.symm.trans this) (by decide)
theorem refs_new {t : FT} (h1 : Ok1 (tr t)) (k u : Int) (m : Nat) : refs (tr (newT t k u)) m = refs (tr t) m := by
  unfold newT
  split
  · rename_i h
    have := refs_set h { I0 with k := k, o := u } m
    rw [free_es h1 (freN_at h)] at this
    exact Nat.add_right_cancel this
  · rw [refs_sumH, refs_sumH, List.map_append, List.sum_append]
    rfl

/-- What a request that succeeds does to the numbers of names. -/
structure Follow (t t' : FT) (k : Int) : Prop where
  len : t.length ≤ t'.length
  more : (k = 1 ∨ k = 2 ∨ k = 10) → ∃ x : Nat, x < t'.length ∧ ∀ m : Nat, refs (tr t') m = refs (tr t) m + oneIf (x : Int) m
  less : k = 8 → t'.length = t.length ∧ ∃ x : Nat, x < t'.length ∧ ∀ m : Nat, refs (tr t') m + oneIf (x : Int) m = refs (tr t) m
  same : ¬ (k = 1 ∨ k = 2 ∨ k = 10) → k ≠ 8 → t'.length = t.length ∧ ∀ m : Nat, refs (tr t') m = refs (tr t) m
theorem Follow.of_more {t t' : FT} {k : Int} (hk : k = 1 ∨ k = 2 ∨ k = 10) (hl : t.length ≤ t'.length) (x : Nat) (hx : x < t'.length) (h : ∀ m : Nat, refs (tr t') m = refs (tr t) m + oneIf (x : Int) m) : Follow t t' k :=
  ⟨hl, fun _ => ⟨x, hx, h⟩, fun e => by omega, fun e => absurd hk e⟩
theorem Follow.of_same {t t' : FT} {k : Int} (hk : ¬ (k = 1 ∨ k = 2 ∨ k = 10)) (h8 : k ≠ 8) (hl : t'.length = t.length) (h : ∀ m : Nat, refs (tr t') m = refs (tr t) m) : Follow t t' k :=
  ⟨Nat.le_of_eq hl.symm, fun e => absurd e hk, fun e => absurd e h8, fun _ _ => ⟨hl, h⟩⟩
theorem mk_follow {t : FT} (h1 : Ok1 (tr t)) (r : Rq) (k : Int) (h : (mkF t r k).1.2 = 0) : t.length ≤ (mkF t r k).2.length ∧ ∃ x : Nat, x < (mkF t r k).2.length ∧ ∀ m : Nat, refs (tr (mkF t r k).2) m = refs (tr t) m + oneIf (x : Int) m := by
  unfold mkF at h ⊢
  by_cases c1 : (vacantF t r.u r.p).2 ≠ 0
  · rw [if_pos c1] at h; exact absurd h c1
  · rw [if_neg c1] at h ⊢
    by_cases c2 : (ino t (vacantF t r.u r.p).1.p).es.length = 16
    · rw [if_pos c2] at h; exact absurd (show (2 : Int) = 0 from h) (by decide)
    · rw [if_neg c2] at h ⊢
      by_cases c3 : freN t = 40
      · rw [if_pos c3] at h; exact absurd (show (14 : Int) = 0 from h) (by decide)
      · rw [if_neg c3]
        have hv := (vacant_at h1 (by simpa using c1)).1.par
        have hl := newT_len t k r.u
        refine ⟨?_, freN t, ?_, fun m => ?_⟩
        · simp only [touchF, addF, chI_len]; exact hl.1
        · simp only [touchF, addF, chI_len]; exact hl.2.2
        · rw [refs_touch, refs_add (Nat.lt_of_lt_of_le hv hl.1), refs_new h1]
theorem link_follow {t : FT} (h1 : Ok1 (tr t)) (r : Rq) (h : (linkW t r).1.2 = 0) : t.length ≤ (linkW t r).2.length ∧ ∃ x : Nat, x < (linkW t r).2.length ∧ ∀ m : Nat, refs (tr (linkW t r).2) m = refs (tr t) m + oneIf (x : Int) m := by
  unfold linkW at h ⊢
  by_cases c1 : (reachF t r.u r.p 2 0).2 ≠ 0
  · rw [if_pos c1] at h; exact absurd h c1
  · rw [if_neg c1] at h ⊢
    by_cases c2 : (vacantF t r.u r.t).2 ≠ 0
    · rw [if_pos c2] at h; exact absurd h c2
    · rw [if_neg c2] at h ⊢
      by_cases c3 : (ino t (vacantF t r.u r.t).1.p).es.length = 16
      · rw [if_pos c3] at h; exact absurd (show (2 : Int) = 0 from h) (by decide)
      · rw [if_neg c3]
        have hv := (vacant_at h1 (by simpa using c2)).1.par
        have hr := reach_in h1 (show (reachF t r.u r.p 2 0).2 = 0 by simpa using c1)
        refine ⟨by simp only [touchF, addF, chI_len]; exact Nat.le_refl _, (reachF t r.u r.p 2 0).1.toNat, by simp only [touchF, addF, chI_len]; exact hr.2, fun m => ?_⟩
        rw [refs_touch, refs_touch, refs_add hv]
        simp only
        rw [Int.toNat_of_nonneg hr.1]
theorem rm_follow {t : FT} (h1 : Ok1 (tr t)) (r : Rq) (h : (rmF t r).1.2 = 0) : (rmF t r).2.length = t.length ∧ ∃ x : Nat, x < (rmF t r).2.length ∧ ∀ m : Nat, refs (tr (rmF t r).2) m + oneIf (x : Int) m = refs (tr t) m := by
  unfold rmF at h ⊢
  by_cases c1 : (removeF t r.u r.p).2 ≠ 0
  · rw [if_pos c1] at h; exact absurd h c1
  · rw [if_neg c1] at h ⊢
    by_cases c2 : 0 < (ino t (removeF t r.u r.p).1.i.toNat).es.length
    · rw [if_pos c2] at h; exact absurd (show (15 : Int) = 0 from h) (by decide)
    · rw [if_neg c2]
      have hR := remove_at h1 (show (removeF t r.u r.p).2 = 0 by simpa using c1)
      generalize (removeF t r.u r.p).1 = a at *
      have hcl : (cutT t a).length = t.length := by simp only [cutT, touchF, takF, chI_len]
      have hcut : ∀ m : Nat, refs (tr (cutT t a)) m + oneIf a.i m = refs (tr t) m := fun m => by
        unfold cutT
        rw [refs_touch, hR.i]
        exact refs_tak hR.par hR.low m
      have hai : ((a.i.toNat : Nat) : Int) = a.i := Int.toNat_of_nonneg (by have := hR.i0; omega)
      have hne : a.i.toNat ≠ a.p := fun e => by
        rw [e] at c2
        have := hR.low
        omega
      have hes : (ino (cutT t a) a.i.toNat).es = [] := by
        unfold cutT touchF takF
        rw [ino_chI _ (by rw [chI_len]; exact hR.par), if_neg hne, ino_chI _ hR.par, if_neg hne]
        exact List.eq_nil_of_length_eq_zero (by omega)
      refine ⟨?_, a.i.toNat, ?_, fun m => ?_⟩
      · dsimp only; split
        · rw [List.length_set, hcl]
        · unfold touchF; rw [chI_len, hcl]
      · dsimp only; split
        · rw [List.length_set, hcl]; exact hR.il
        · unfold touchF; rw [chI_len, hcl]; exact hR.il
      · rw [hai]
        dsimp only; split
        · have := refs_set (show a.i.toNat < (cutT t a).length by rw [hcl]; exact hR.il) I0 m
          rw [hes] at this
          rw [Nat.add_right_cancel (show refs (tr ((cutT t a).set a.i.toNat I0)) m + cE [] m = refs (tr (cutT t a)) m + cE [] m from this)]
          exact hcut m
        · rw [refs_touch]; exact hcut m
theorem mv_follow {t : FT} (h1 : Ok1 (tr t)) (r : Rq) (h : (mvF t r).1.2 = 0) : (mvF t r).2.length = t.length ∧ ∀ m : Nat, refs (tr (mvF t r).2) m = refs (tr t) m := by
  unfold mvF at h ⊢
  by_cases c1 : (removeF t r.u r.p).2 ≠ 0
  · rw [if_pos c1] at h; exact absurd h c1
  · rw [if_neg c1] at h ⊢
    by_cases c2 : blwB r.p r.t = true
    · rw [if_pos c2] at h; exact absurd (show (15 : Int) = 0 from h) (by decide)
    · rw [if_neg c2] at h ⊢
      by_cases c3 : (vacantF t r.u r.t).2 ≠ 0
      · rw [if_pos c3] at h; exact absurd h c3
      · rw [if_neg c3] at h ⊢
        by_cases c4 : (vacantF t r.u r.t).1.p ≠ (removeF t r.u r.p).1.p ∧ (ino t (vacantF t r.u r.t).1.p).es.length = 16
        · rw [if_pos c4] at h; exact absurd (show (2 : Int) = 0 from h) (by decide)
        · rw [if_neg c4]
          have hR := remove_at h1 (show (removeF t r.u r.p).2 = 0 by simpa using c1)
          have hv := (vacant_at h1 (show (vacantF t r.u r.t).2 = 0 by simpa using c3)).1.par
          generalize (removeF t r.u r.p).1 = a at *
          generalize (vacantF t r.u r.t).1 = b at *
          have hm : ∀ m : Nat, refs (tr (movT t a b)) m = refs (tr t) m := fun m => by
            unfold movT
            rw [refs_add (by unfold takF; rw [chI_len]; exact hv)]
            have := refs_tak hR.par hR.low m
            rw [← hR.i] at this
            exact this
          have hl : (movT t a b).length = t.length := by simp only [movT, addF, takF, chI_len]
          refine ⟨?_, fun m => ?_⟩
          · dsimp only; split <;> simp only [touchF, chI_len, hl]
          · dsimp only; split
            · rw [refs_touch, refs_touch, hm]
            · rw [refs_touch, hm]
theorem chgF_es (x : Ino) (r : Rq) : (chgF x r).2.es = x.es := by
  unfold chgF
  repeat' split
  all_goals rfl
theorem ch_follow {t : FT} (r : Rq) (kd pm : Int) : (changeF t r kd pm).2.length = t.length ∧ ∀ m : Nat, refs (tr (changeF t r kd pm).2) m = refs (tr t) m := by
  unfold changeF
  split
  · exact ⟨rfl, fun _ => rfl⟩
  · split
    · exact ⟨rfl, fun _ => rfl⟩
    · exact ⟨by simp only [touchF, chI_len], fun m => by rw [refs_touch]; exact refs_sameH t _ _ (chgF_es _ r) m⟩
theorem perf_follow {t : FT} (h1 : Ok1 (tr t)) (r : Rq) (h : (perfF t r).1.2 = 0) : Follow t (perfF t r).2 r.k := by
  unfold perfF at h ⊢
  by_cases k1 : r.k = 1
  · rw [if_pos k1] at h ⊢
    obtain ⟨a, x, b, c⟩ := mk_follow h1 r 1 h
    exact .of_more (.inl k1) a x b c
  · rw [if_neg k1] at h ⊢
    by_cases k2 : r.k = 2
    · rw [if_pos k2] at h ⊢
      obtain ⟨a, x, b, c⟩ := mk_follow h1 r 2 h
      exact .of_more (.inr (.inl k2)) a x b c
    · rw [if_neg k2] at h ⊢
      by_cases k3 : r.k = 3
      · rw [if_pos k3]; exact .of_same (by omega) (by omega) rfl fun _ => rfl
      · rw [if_neg k3] at h ⊢
        by_cases k4 : r.k = 4 ∨ r.k = 5
        · rw [if_pos k4]; exact .of_same (by omega) (by omega) (ch_follow r 2 2).1 (ch_follow r 2 2).2
        · rw [if_neg k4] at h ⊢
          by_cases k6 : r.k = 6
          · rw [if_pos k6]; exact .of_same (by omega) (by omega) rfl fun _ => rfl
          · rw [if_neg k6] at h ⊢
            by_cases k8 : r.k = 8
            · rw [if_pos k8] at h ⊢
              obtain ⟨a, x, b, c⟩ := rm_follow h1 r h
              exact ⟨Nat.le_of_eq a.symm, fun e => by omega, fun _ => ⟨a, x, b, c⟩, fun _ e => absurd k8 e⟩
            · rw [if_neg k8] at h ⊢
              by_cases k9 : r.k = 9
              · rw [if_pos k9] at h ⊢
                exact .of_same (by omega) k8 (mv_follow h1 r h).1 (mv_follow h1 r h).2
              · rw [if_neg k9] at h ⊢
                by_cases k10 : r.k = 10
                · rw [if_pos k10] at h ⊢
                  obtain ⟨a, x, b, c⟩ := link_follow h1 r h
                  exact .of_more (.inr (.inr k10)) a x b c
                · rw [if_neg k10] at h ⊢
                  have hn : ¬ (r.k = 1 ∨ r.k = 2 ∨ r.k = 10) := by omega
                  by_cases k11 : r.k = 11 ∨ r.k = 14
                  · rw [if_pos k11]; exact .of_same hn k8 (ch_follow r 0 8).1 (ch_follow r 0 8).2
                  · rw [if_neg k11]
                    by_cases k13 : r.k = 13
                    · rw [if_pos k13]; exact .of_same hn k8 (ch_follow r 1 8).1 (ch_follow r 1 8).2
                    · rw [if_neg k13]
                      by_cases k12 : r.k = 12
                      · rw [if_pos k12]; exact .of_same hn k8 (ch_follow r 0 2).1 (ch_follow r 0 2).2
                      · rw [if_neg k12]; exact .of_same hn k8 rfl fun _ => rfl
theorem apply_follow {t : FT} (h1 : Ok1 (tr t)) (r : Rq) (h : (applyF t r).2.c = 0) : Follow t (applyF t r).1 r.k := by
  unfold applyF at h ⊢
  by_cases c1 : (perfF t r).1.2 ≠ 0
  · rw [if_pos c1] at h; exact absurd h c1
  · rw [if_neg c1] at h ⊢
    by_cases c2 : (valT (tr (perfF t r).2)).1 ≠ 0
    · rw [if_pos c2] at h; exact absurd h c2
    · rw [if_neg c2]
      exact perf_follow h1 r (by simpa using c1)

theorem refs_past {t : FT} (h1 : Ok1 (tr t)) {n : Nat} (hn : t.length ≤ n) : refs (tr t) n = 0 := by
  unfold refs
  rw [List.countP_eq_zero]
  intro e he hd
  obtain ⟨x, hx, hex⟩ := List.mem_flatMap.1 he
  obtain ⟨j, hj, rfl⟩ := List.getElem_of_mem hx
  have hm : e ∈ kids (tr t) j := by unfold kids; rw [nod_at hj]; exact hex
  have h2 := (h1.kid hm).2.2.1
  rw [tr_len] at h2
  have h3 : e.i = (n : Int) := of_decide_eq_true hd
  omega
/-- The same in one line for all kinds of requests: inode x has sg names more. -/
theorem follow_sum {t : FT} (h1 : Ok1 (tr t)) (r : Rq) (hc : (applyF t r).2.c = 0) : ∃ (sg : Int) (x : Nat), (sg = 1 ∨ sg = -1 ∨ sg = 0) ∧
    (∀ m : Nat, ((refs (tr (applyF t r).1) m : Nat) : Int) = (if m < t.length then ((refs (tr t) m : Nat) : Int) else 0) + sg * (oneIf (x : Int) m : Nat)) ∧
    (x < (applyF t r).1.length ∧ t.length ≤ (applyF t r).1.length) ∧ (((r.k = 1 ∨ r.k = 2 ∨ r.k = 10) → sg = 1) ∧ (r.k = 8 → sg = -1)) ∧ (¬ (r.k = 1 ∨ r.k = 2 ∨ r.k = 10) → r.k ≠ 8 → sg = 0 ∧ (applyF t r).1.length = t.length) := by
  have F := apply_follow h1 r hc
  have hz : ∀ m : Nat, (if m < t.length then ((refs (tr t) m : Nat) : Int) else 0) = ((refs (tr t) m : Nat) : Int) := fun m => by
    by_cases hm : m < t.length
    · rw [if_pos hm]
    · rw [if_neg hm, refs_past h1 (by omega)]; rfl
  by_cases hk : r.k = 1 ∨ r.k = 2 ∨ r.k = 10
  · obtain ⟨x, hx, hm⟩ := F.more hk
    refine ⟨1, x, .inl rfl, fun m => ?_, ⟨hx, F.len⟩, ⟨fun _ => rfl, fun e => by omega⟩, fun e => absurd hk e⟩
    rw [hz, hm]; omega
  · by_cases h8 : r.k = 8
    · obtain ⟨hl, x, hx, hm⟩ := F.less h8
      refine ⟨-1, x, .inr (.inl rfl), fun m => ?_, ⟨hx, F.len⟩, ⟨fun e => absurd e hk, fun _ => rfl⟩, fun _ e => absurd h8 e⟩
      have := hm m
      rw [hz]; omega
    · obtain ⟨hl, hm⟩ := F.same hk h8
      have h0 : 0 < t.length := by have := h1.ne; rwa [tr_len] at this
      refine ⟨0, 0, .inr (.inr rfl), fun m => ?_, ⟨by omega, F.len⟩, ⟨fun e => absurd e hk, fun e => absurd e h8⟩, fun _ _ => ⟨rfl, hl⟩⟩
      rw [hz, hm]; omega

end Go.Proofs.YtmbbmmnpkdfecaaGreatDoor
