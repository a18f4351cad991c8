/- What a law of package memfs or of its neighbours needs, at the translation of this seat.
   Condition: as each theorem states; this text: MfRen1. -/
import Derived.Test.YtmbbmmnpkdfecaaGreatDoorMtA

set_option linter.all false

/- A rename of user 0, and the rename back, in plain words. No program. -/

set_option linter.all false
namespace Go.Proofs.YtmbbmmnpkdfecaaGreatDoor
open Go.RowKit

def mvT (t : FT) (a b : Pl) : FT := if b.p ≠ a.p then touchF (touchF (movT t a b) a.p) b.p else touchF (movT t a b) a.p
theorem mvT_len (t : FT) (a b : Pl) : (mvT t a b).length = t.length := by
  unfold mvT
  split
  · rw [touchF_len, touchF_len, movT_len]
  · rw [touchF_len, movT_len]
theorem movT_ino {t : FT} {a b : Pl} (ha : a.p < t.length) (hb : b.p < t.length) (j : Nat) : ino (movT t a b) j = { ino t j with es := if j = b.p then insE (if b.p = a.p then delE (ino t a.p).es a.n else (ino t b.p).es) ⟨b.n, a.i⟩ else if j = a.p then delE (ino t a.p).es a.n else (ino t j).es } := by
  unfold movT addF takF
  rw [ino_chI _ (by rw [chI_len]; exact hb)]
  by_cases e : j = b.p
  · subst e
    rw [if_pos rfl, if_pos rfl, ino_chI _ ha]
    by_cases e2 : b.p = a.p
    · rw [if_pos e2, if_pos e2, e2]
    · rw [if_neg e2, if_neg e2]
  · rw [if_neg e, if_neg e, ino_chI _ ha]
    by_cases e2 : j = a.p
    · subst e2
      rw [if_pos rfl, if_pos rfl]
    · rw [if_neg e2, if_neg e2]
theorem mvT_ino {t : FT} {a b : Pl} (ha : a.p < t.length) (hb : b.p < t.length) (ka : (ino t a.p).k ≠ 0) (kb : (ino t b.p).k ≠ 0) (j : Nat) : ∃ v : Int, ino (mvT t a b) j = { ino (movT t a b) j with v := v } ∧ ((ino t j).k = 0 → v = (ino t j).v) := by
  have hk : ∀ m, (ino (movT t a b) m).k = (ino t m).k := fun m => by rw [movT_ino ha hb]
  have hv : ∀ m, (ino (movT t a b) m).v = (ino t m).v := fun m => by rw [movT_ino ha hb]
  obtain ⟨v1, e1, f1⟩ := touch_v (t := movT t a b) (n := a.p) (by rw [movT_len]; exact ha) (by rw [hk]; exact ka) j
  unfold mvT
  split
  · obtain ⟨v3, e3, _⟩ := touch_v (t := movT t a b) (n := a.p) (by rw [movT_len]; exact ha) (by rw [hk]; exact ka) b.p
    obtain ⟨v2, e2, f2⟩ := touch_v (t := touchF (movT t a b) a.p) (n := b.p) (by rw [touchF_len, movT_len]; exact hb) (by rw [e3]; simp only; rw [hk]; exact kb) j
    refine ⟨v2, by rw [e2, e1], fun hz => ?_⟩
    rw [f2 (by rw [e1]; simp only; rw [hk]; exact hz), e1]
    simp only
    rw [f1 (by rw [hk]; exact hz), hv]
  · exact ⟨v1, e1, fun hz => by rw [f1 (by rw [hk]; exact hz), hv]⟩
theorem mvT_ver {t : FT} (h : VerOk t) {a b : Pl} (ha : a.p < t.length) (hb : b.p < t.length) : VerOk (mvT t a b) := by
  have h2 : VerOk (movT t a b) := (h.tak ha a.n).add (by rw [takF_len]; exact hb) _
  unfold mvT
  split
  · exact (h2.touch (by rw [movT_len]; exact ha)).touch (by rw [touchF_len, movT_len]; exact hb)
  · exact h2.touch (by rw [movT_len]; exact ha)
/-- A tree that differs in versions alone is as valid. -/
theorem same_valid {t y : FT} (hv : (valT (tr t)).1 = 0) (hyl : y.length = t.length) (hyI : ∀ j, ∃ v : Int, ino y j = { ino t j with v := v } ∧ ((ino t j).k = 0 → v = (ino t j).v)) (hver : VerOk y) : (valT (tr y)).1 = 0 := by
  have vd := vd_of hv
  have sv := vd.toSv
  have hal : Alike t y := ⟨fun j => by obtain ⟨v, e, _⟩ := hyI j; rw [e], fun j => by obtain ⟨v, e, _⟩ := hyI j; rw [e], fun j => by obtain ⟨v, e, _⟩ := hyI j; rw [e], fun j => by obtain ⟨v, e, _⟩ := hyI j; rw [e]⟩
  have hkk : ∀ m, kids (tr y) m = kids (tr t) m := fun m => by rw [kids_tr, kids_tr]; exact hal.es m
  have svy : Sv (tr y) := by
    refine sv.same (by rw [tr_len, tr_len]; exact hyl) hkk (fun m => by rw [nod_tr, nod_tr]; exact hal.k m) (fun m hm => ?_)
    rw [tr_len] at hm
    have h2 := sv.node m
    have hvm := hver m (by rw [hyl]; exact hm)
    obtain ⟨v, e, f⟩ := hyI m
    rw [nod_tr] at h2
    rw [nod_tr]
    rw [e] at hvm ⊢
    exact ⟨fun h0 => by
      obtain ⟨a1, a2, a3, a4, a5, a6, a7⟩ := h2.free h0
      exact ⟨a1, a2, a3, a4, a5, a6, by show v = 0; rw [f h0]; exact a7⟩, h2.kind, h2.o0, h2.o7, hvm.1, hvm.2, h2.q0, h2.q1, h2.dir, h2.file, h2.dl, h2.ac, h2.xs, h2.len, h2.ent, h2.srt⟩
  have hfar : ¬ Far (tr y) := fun hf => vd.near ((far_same hkk).1 hf)
  have hov : ¬ Over (tr y) := over_less vd svy (fun m _ => by rw [nod_tr, nod_tr]; obtain ⟨v, e, _⟩ := hyI m; rw [e]; rfl) fun s m xs _ hr _ => ⟨by rw [nod_tr, nod_tr]; obtain ⟨v, e, _⟩ := hyI m; rw [e]; exact Nat.le_refl _, xs, (rch_same hkk).1 hr⟩
  rw [svy.val_ok hfar hov]

/-- What a rename asks for and does. -/
theorem mvF_do {t : FT} {r : Rq} (hu : r.u = 0) (h2 : (removeF t 0 r.p).2 = 0) (h3 : ¬ blwB r.p r.t = true) (h4 : (vacantF t 0 r.t).2 = 0)
    (h5 : ¬ ((vacantF t 0 r.t).1.p ≠ (removeF t 0 r.p).1.p ∧ (ino t (vacantF t 0 r.t).1.p).es.length = 16)) : mvF t r = (((removeF t 0 r.p).1.i, 0), mvT t (removeF t 0 r.p).1 (vacantF t 0 r.t).1) := by
  unfold mvF
  rw [hu, if_neg (by simpa using h2), if_neg h3, if_neg (by simpa using h4), if_neg h5]
  rfl
theorem ren_eq {t : FT} {r : Rq} (hk : r.k = 9) (hu : r.u = 0) (hc : (applyF t r).2.c = 0) : (removeF t 0 r.p).2 = 0 ∧ ¬ blwB r.p r.t = true ∧ (vacantF t 0 r.t).2 = 0 ∧
    (valT (tr (mvT t (removeF t 0 r.p).1 (vacantF t 0 r.t).1))).1 = 0 ∧ applyF t r = (mvT t (removeF t 0 r.p).1 (vacantF t 0 r.t).1, replyF (mvT t (removeF t 0 r.p).1 (vacantF t 0 r.t).1) r (removeF t 0 r.p).1.i.toNat) := by
  have hp9 : perfF t r = mvF t r := perfF_at.2.2.2.2.2.2.2.2.1 hk
  have hgo : (removeF t 0 r.p).2 = 0 ∧ ¬ blwB r.p r.t = true ∧ (vacantF t 0 r.t).2 = 0 ∧ ¬ ((vacantF t 0 r.t).1.p ≠ (removeF t 0 r.p).1.p ∧ (ino t (vacantF t 0 r.t).1.p).es.length = 16) := by
    unfold applyF at hc
    rw [hp9] at hc
    unfold mvF at hc
    rw [hu] at hc
    by_cases c1 : (removeF t 0 r.p).2 ≠ 0
    · rw [if_pos c1, if_pos c1] at hc; exact absurd hc c1
    rw [if_neg c1] at hc
    by_cases c2 : blwB r.p r.t = true
    · rw [if_pos c2, if_pos (show (15 : Int) ≠ 0 by decide)] at hc; exact absurd (show (15 : Int) = 0 from hc) (by decide)
    rw [if_neg c2] at hc
    by_cases c3 : (vacantF t 0 r.t).2 ≠ 0
    · rw [if_pos c3, if_pos c3] at hc; exact absurd hc c3
    rw [if_neg c3] at hc
    by_cases c4 : (vacantF t 0 r.t).1.p ≠ (removeF t 0 r.p).1.p ∧ (ino t (vacantF t 0 r.t).1.p).es.length = 16
    · rw [if_pos c4, if_pos (show (2 : Int) ≠ 0 by decide)] at hc; exact absurd (show (2 : Int) = 0 from hc) (by decide)
    exact ⟨by simpa using c1, c2, by simpa using c3, c4⟩
  obtain ⟨g1, g2, g3, g4⟩ := hgo
  have hm := mvF_do hu g1 g2 g3 g4
  refine ⟨g1, g2, g3, ?_⟩
  unfold applyF at hc ⊢
  rw [hp9, hm] at hc ⊢
  simp only at hc ⊢
  rw [if_neg (show ¬ (0 : Int) ≠ 0 by decide)] at hc ⊢
  by_cases c5 : (valT (tr (mvT t (removeF t 0 r.p).1 (vacantF t 0 r.t).1))).1 ≠ 0
  · rw [if_pos c5] at hc; exact absurd hc c5
  · exact ⟨by simpa using c5, if_neg c5⟩

def rnq (p q : ByteArray) : Rq := ⟨9, 0, p, q, 0, 0, [], [], A0⟩
theorem rnq_ok {p q : ByteArray} (hp : pathB p = true) (hq : pathB q = true) : rqC (rnq p q) = 0 := by
  have hkn : knownB (rnq p q).k = true := by show knownB 9 = true; decide
  have hus : usrB (rnq p q).u = true := by show usrB 0 = true; decide
  have hbl : blankB (wo (rnq p q)) = true := by
    unfold wo
    rw [if_neg (show ¬ (rnq p q).k = 3 from by show ¬ (9 : Int) = 3; decide), if_neg (show ¬ (rnq p q).k = 4 from by show ¬ (9 : Int) = 4; decide), if_neg (show ¬ ((rnq p q).k = 5 ∨ (rnq p q).k = 13 ∨ (rnq p q).k = 14) from by show ¬ ((9 : Int) = 5 ∨ (9 : Int) = 13 ∨ (9 : Int) = 14); decide), if_pos (show ((rnq p q).k = 9 ∨ (rnq p q).k = 10) from .inl rfl)]
    rfl
  have hpa : pathB (rnq p q).p = true := hp
  have hpt : pathB (rnq p q).t = true := hq
  have htw : twoB (rnq p q).k = true := by show twoB 9 = true; decide
  have hof : offB (rnq p q).off = true := by show offB 0 = true; decide
  have hszb : szB (rnq p q).k (rnq p q).sz = true := by show szB 9 0 = true; decide
  unfold rqC
  rw [hkn, hus, hbl, hpa, hpt, htw, hof, hszb]
  simp only [Bool.true_eq_false, if_false, Bool.false_eq_true, and_false]
  rw [if_neg (show ¬ 200 < (rnq p q).d.length from by show ¬ 200 < 0; decide), if_neg (show ¬ (valF (rnq p q).ac).1 ≠ 0 from by show ¬ (valF []).1 ≠ 0; decide), if_neg (show ¬ (rnq p q).k = 12 from by show ¬ (9 : Int) = 12; decide)]

theorem pre_of {xs ys : List ByteArray} (h : xs <+: ys) : pre xs ys = true := by
  unfold pre
  exact decide_eq_true ⟨h.length_le, List.prefix_iff_eq_take.1 h⟩
theorem of_pre {xs ys : List ByteArray} (h : pre xs ys = true) : xs <+: ys := by
  unfold pre at h
  exact List.prefix_iff_eq_take.2 (of_decide_eq_true h).2

set_option maxHeartbeats 1600000 in
theorem ren_at {t : FT} {r : Rq} (hv : (valT (tr t)).1 = 0) (hk : r.k = 9) (hu : r.u = 0) (hq : rqC r = 0) (hc : (applyF t r).2.c = 0) : ∃ n : Nat, rqC (rnq r.t r.p) = 0 ∧ (applyF t r).2.s.i = (n : Int) ∧
    (lookF (tr t) r.p).1 = n ∧ (lookF (tr t) r.p).2.1 = 0 ∧ (applyF (applyF t r).1 (rnq r.t r.p)).2.c = 0 ∧ (applyF (applyF t r).1 (rnq r.t r.p)).2.s.i = (n : Int) ∧
    (applyF (applyF t r).1 (rnq r.t r.p)).1.length = t.length ∧ ∀ j, ∃ v : Int, ino (applyF (applyF t r).1 (rnq r.t r.p)).1 j = { ino t j with v := v } := by
  have G := rqG_of hq
  have vd := vd_of hv
  have sv := vd.toSv
  have h1 := sv.ok1
  have hpt : pathB r.t = true := G.t (by rw [hk]; decide)
  have hsp : (splitF r.p).1 = 0 := splitF_of.1 G.p
  have hst : (splitF r.t).1 = 0 := splitF_of.1 hpt
  obtain ⟨hrem, hblw, hvac, hv', hap⟩ := ren_eq hk hu hc
  -- the place that is left
  have R := remove_at h1 hrem
  obtain ⟨eA1, eA2, eA3⟩ := unless_ok hrem
  obtain ⟨eA4, eA5, eA6, _⟩ := entry_ok eA2
  have hAr : resolveF t 0 r.p = ((removeF t 0 r.p).1, 0) := by
    have : (removeF t 0 r.p).1 = (entryF t 0 r.p).1 := unless_fst _
    rw [this, eA4]; exact Prod.ext rfl eA5
  have hAn : (removeF t 0 r.p).1.n ≠ ByteArray.empty := by
    have : (removeF t 0 r.p).1 = (entryF t 0 r.p).1 := unless_fst _
    rw [this, eA4]; exact eA6
  -- the place that is taken
  obtain ⟨V, hent⟩ := vacant_at h1 hvac
  obtain ⟨eent, hres2, hname, _⟩ := entry_ok hent
  have hB : (vacantF t 0 r.t).1 = (resolveF t 0 r.t).1 := by rw [vacant_fst, eent]
  have hBi : (vacantF t 0 r.t).1.i = -1 := by
    rw [vacant_fst]
    refine Classical.byContradiction fun hh => ?_
    unfold vacantF at hvac
    rw [if_pos ⟨hent, hh⟩] at hvac
    exact absurd (show (7 : Int) = 0 from hvac) (by decide)
  have hBr : resolveF t 0 r.t = ((vacantF t 0 r.t).1, 0) := Prod.ext hB.symm hres2
  have hBn : (vacantF t 0 r.t).1.n ≠ ByteArray.empty := by rw [hB]; exact hname
  clear eA1 eA2 eA3 eA4 eA5 eA6 eent hres2 hname hB hent
  generalize (removeF t 0 r.p).1 = A at *
  generalize (vacantF t 0 r.t).1 = B at *
  have hA0 := R.i0
  have hABl : lookE (ino t B.p).es B.n = -1 := by unfold lookE; rw [V.fnd]; rfl
  have hAl : lookE (ino t A.p).es A.n = A.i := by unfold lookE; rw [if_pos R.fnd]; exact R.i.symm
  have hAB : ¬ (A.p = B.p ∧ A.n = B.n) := fun h => by rw [← h.1, ← h.2, hAl] at hABl; omega
  have sv' := (vd_of hv').toSv
  -- the ways
  have hxs : resP t 0 (splitL r.p) P0 = (A, 0) := hAr
  have hzs : resP t 0 (splitL r.t) P0 = (B, 0) := hBr
  have noPre : ¬ splitL r.p <+: splitL r.t := fun h => hblw (by
    unfold blwB contB
    rw [pre_of h, decide_eq_true ⟨hsp, hst⟩]
    simp only [Bool.true_and, decide_eq_true_eq]
    intro e
    rw [e, hzs] at hxs
    injection hxs with e2 _
    rw [e2] at hBi
    omega)
  have noPre2 : ¬ splitL r.t <+: splitL r.p := by
    rintro ⟨ws, hws⟩
    rw [← hws] at hxs
    obtain ⟨b', hb', hbi⟩ := resP_pre ws.length _ ws A rfl hxs (by omega)
    rw [hzs] at hb'
    injection hb' with e _
    rw [← e] at hbi
    exact hbi hBi
  have hblw2 : ¬ blwB r.t r.p = true := fun h => by
    unfold blwB contB at h
    rw [Bool.and_eq_true, Bool.and_eq_true] at h
    exact noPre2 (of_pre h.1.2)
  obtain ⟨ys, x, hys⟩ : ∃ ys x, splitL r.p = ys ++ [x] := (snoc_cases _).resolve_left fun e => by
    rw [e] at hxs; unfold resP at hxs; injection hxs with e2 _; rw [← e2] at hAn; exact hAn rfl
  obtain ⟨us, z, hus⟩ : ∃ us z, splitL r.t = us ++ [z] := (snoc_cases _).resolve_left fun e => by
    rw [e] at hzs; unfold resP at hzs; injection hzs with e2 _; rw [← e2] at hBn; exact hBn rfl
  rw [hys] at hxs noPre
  rw [hus] at hzs noPre
  obtain ⟨c, hcy, c1, c2, c3, hcA⟩ := resP_inv ys x P0 A hxs
  obtain ⟨d, hdu, d1, d2, d3, hdB⟩ := resP_inv us z P0 B hzs
  have hAp : A.p = c.i.toNat := by rw [hcA]
  have hAx : A.n = x := by rw [hcA]
  have hBp : B.p = d.i.toNat := by rw [hdB]
  have hBz : B.n = z := by rw [hdB]
  have rc := resP_rch _ ys c rfl hcy c1
  have rd := resP_rch _ us d rfl hdu d1
  have kc := (sv.reach rc).2.1
  have kd := (sv.reach rd).2.1
  rw [nod_tr] at kc kd
  have ka : (ino t A.p).k ≠ 0 := by rw [hAp]; exact kc
  have kb : (ino t B.p).k ≠ 0 := by rw [hBp]; exact kd
  have ka1 : (nod (tr t) A.p).k = 1 := by
    have := (sv.node A.p).kind
    rw [nod_tr] at this ⊢
    have h0 : (ino t A.p).k = 0 ∨ (ino t A.p).k = 1 ∨ (ino t A.p).k = 2 := this
    rw [hAp] at h0 ⊢
    show (ino t c.i.toNat).k = 1
    rcases h0 with h | h | h
    · exact absurd h kc
    · exact h
    · exact absurd h c2
  -- the tree behind the rename
  have hI : ∀ j, ∃ v : Int, ino (mvT t A B) j = { ino t j with es := if j = B.p then insE (if B.p = A.p then delE (ino t A.p).es A.n else (ino t B.p).es) ⟨B.n, A.i⟩ else if j = A.p then delE (ino t A.p).es A.n else (ino t j).es, v := v } ∧ ((ino t j).k = 0 → v = (ino t j).v) := fun j => by
    obtain ⟨v, e, f⟩ := mvT_ino R.par V.par ka kb j
    exact ⟨v, by rw [e, movT_ino R.par V.par], f⟩
  have hk' : ∀ j, (ino (mvT t A B) j).k = (ino t j).k := fun j => by obtain ⟨v, e, _⟩ := hI j; rw [e]
  have hac' : ∀ j, (ino (mvT t A B) j).ac = (ino t j).ac := fun j => by obtain ⟨v, e, _⟩ := hI j; rw [e]
  have ho' : ∀ j, (ino (mvT t A B) j).o = (ino t j).o := fun j => by obtain ⟨v, e, _⟩ := hI j; rw [e]
  have halw : ∀ j, alw (mvT t A B) j 0 4 = alw t j 0 4 := fun j => by unfold alw; rw [hac', ho']
  have hsA := ok_srt h1 A.p
  have hsB := ok_srt h1 B.p
  have hdel := delE_look hsA R.fnd
  have hlook : ∀ j y, lookE (ino (mvT t A B) j).es y = if j = B.p ∧ y = B.n then A.i else if j = A.p ∧ y = A.n then -1 else lookE (ino t j).es y := fun j y => by
    obtain ⟨v, e, _⟩ := hI j
    rw [e]
    simp only
    by_cases e1 : j = B.p
    · rw [if_pos e1]
      by_cases e2 : B.p = A.p
      · rw [if_pos e2]
        have hf2 : fndE (delE (ino t A.p).es A.n) B.n = false := (fnd_none (delE_srt hsA A.n)).2 fun w hw => (fnd_none hsA).1 (by rw [← e2]; exact V.fnd) w ((delE_perm R.fnd).mem_iff.2 (List.mem_cons_of_mem _ hw))
        rw [insE_look (e := ⟨B.n, A.i⟩) (delE_srt hsA A.n) hf2]
        simp only
        by_cases e3 : y = B.n
        · rw [if_pos e3, if_pos ⟨e1, e3⟩]
        · rw [if_neg e3, if_neg (fun h => e3 h.2), hdel]
          by_cases e4 : y = A.n
          · rw [if_pos e4, if_pos ⟨e1.trans e2, e4⟩]
          · rw [if_neg e4, if_neg (fun h => e4 h.2), e1, e2]
      · rw [if_neg e2, insE_look (e := ⟨B.n, A.i⟩) hsB V.fnd]
        simp only
        by_cases e3 : y = B.n
        · rw [if_pos e3, if_pos ⟨e1, e3⟩]
        · rw [if_neg e3, if_neg (fun h => e3 h.2), if_neg (fun h => e2 (e1.symm.trans h.1)), e1]
    · rw [if_neg e1, if_neg (show ¬ (j = B.p ∧ y = B.n) from fun h => e1 h.1)]
      by_cases e2 : j = A.p
      · rw [if_pos e2, hdel]
        by_cases e4 : y = A.n
        · rw [if_pos e4, if_pos ⟨e2, e4⟩]
        · rw [if_neg e4, if_neg (fun h => e4 h.2), e2]
      · rw [if_neg e2, if_neg (fun h => e2 h.1)]
  have stepOk : ∀ (L : List ByteArray), (¬ ys ++ [x] <+: L) → ∀ ys0 x0 c0, ys0 ++ [x0] <+: L → resP t 0 ys0 P0 = (c0, 0) → c0.i ≠ -1 → lookE (ino t c0.i.toNat).es x0 ≠ -1 → lookE (ino (mvT t A B) c0.i.toNat).es x0 = lookE (ino t c0.i.toNat).es x0 := fun L hL ys0 x0 c0 hp hr hi hl => by
    rw [hlook, if_neg, if_neg]
    · rintro ⟨e1, e2⟩
      have r0 := resP_rch _ ys0 c0 rfl hr hi
      rw [e1, hAp] at r0
      have := sv.uniq r0 (by rw [← hAp]; exact ka1) rc
      exact hL (by rw [← this, ← hAx, ← e2]; exact hp)
    · rintro ⟨e1, e2⟩
      rw [e1, e2] at hl
      exact hl hABl
  have hcy' := resP_keep hk' halw ys (stepOk ys fun h => by have := h.length_le; simp at this; omega) _ ys c rfl (List.prefix_refl _) hcy c1
  have hdu' := resP_keep hk' halw us (stepOk us fun h => noPre (h.trans (List.prefix_append us [z]))) _ us d rfl (List.prefix_refl _) hdu d1
  have hrt' : resolveF (mvT t A B) 0 r.t = (⟨B.p, B.n, A.i⟩, 0) := by
    have := resP_mk us z P0 d hdu' d1 (by rw [hk']; exact d2) (by rw [halw]; exact d3)
    rw [hlook, if_pos ⟨hBp.symm, hBz.symm⟩, ← hBp, ← hBz] at this
    unfold resolveF
    rw [hus, ← hBz]
    exact this
  have hrp' : resolveF (mvT t A B) 0 r.p = (⟨A.p, A.n, -1⟩, 0) := by
    have := resP_mk ys x P0 c hcy' c1 (by rw [hk']; exact c2) (by rw [halw]; exact c3)
    rw [hlook, if_neg (fun h => hAB ⟨hAp.trans h.1, hAx.trans h.2⟩), if_pos ⟨hAp.symm, hAx.symm⟩, ← hAp] at this
    unfold resolveF
    rw [hys, this, hAx]
  -- the rename back
  have hrem2 : removeF (mvT t A B) 0 r.t = (⟨B.p, B.n, A.i⟩, 0) := by
    unfold removeF entryF
    rw [hrt']
    simp only
    rw [if_neg (by simp), if_neg hBn, if_neg (by rw [alw_zeroR sv' (by decide)]; simp)]
    unfold unlessF
    rw [if_neg (by rintro ⟨_, e⟩; simp only at e; omega)]
  have hvac2 : vacantF (mvT t A B) 0 r.p = (⟨A.p, A.n, -1⟩, 0) := by
    have he : entryF (mvT t A B) 0 r.p = (⟨A.p, A.n, -1⟩, 0) := by
      unfold entryF
      rw [hrp']
      simp only
      rw [if_neg (by simp), if_neg hAn, if_neg (by rw [alw_zeroR sv' (by decide)]; simp)]
    unfold vacantF
    rw [he, if_neg (by rintro ⟨_, e⟩; exact e rfl)]
  have hfull : ¬ (A.p ≠ B.p ∧ (ino (mvT t A B) A.p).es.length = 16) := by
    rintro ⟨e1, e2⟩
    obtain ⟨v, e, _⟩ := hI A.p
    rw [e] at e2
    simp only at e2
    rw [if_neg e1, if_pos trivial] at e2
    have := delE_len R.fnd
    have := ok_len h1 A.p
    omega
  have hl' : (mvT t A B).length = t.length := mvT_len _ _ _
  have hmv2 : mvF (mvT t A B) (rnq r.t r.p) = ((A.i, 0), mvT (mvT t A B) ⟨B.p, B.n, A.i⟩ ⟨A.p, A.n, -1⟩) := by
    have := mvF_do (t := mvT t A B) (r := rnq r.t r.p) rfl (by show (removeF (mvT t A B) 0 r.t).2 = 0; rw [hrem2]) hblw2 (by show (vacantF (mvT t A B) 0 r.p).2 = 0; rw [hvac2]) (by
      show ¬ ((vacantF (mvT t A B) 0 r.p).1.p ≠ (removeF (mvT t A B) 0 r.t).1.p ∧ (ino (mvT t A B) (vacantF (mvT t A B) 0 r.p).1.p).es.length = 16)
      rw [hvac2, hrem2]; exact hfull)
    rw [show (rnq r.t r.p).p = r.t from rfl, show (rnq r.t r.p).t = r.p from rfl, hrem2, hvac2] at this
    exact this
  have hyI : ∀ j, ∃ v : Int, ino (mvT (mvT t A B) ⟨B.p, B.n, A.i⟩ ⟨A.p, A.n, -1⟩) j = { ino t j with v := v } ∧ ((ino t j).k = 0 → v = (ino t j).v) := fun j => by
    have pb : (⟨B.p, B.n, A.i⟩ : Pl).p < (mvT t A B).length := by rw [hl']; exact V.par
    have pa : (⟨A.p, A.n, -1⟩ : Pl).p < (mvT t A B).length := by rw [hl']; exact R.par
    obtain ⟨v, e, f⟩ := mvT_ino (t := mvT t A B) (a := ⟨B.p, B.n, A.i⟩) (b := ⟨A.p, A.n, -1⟩) pb pa (by rw [hk']; exact kb) (by rw [hk']; exact ka) j
    obtain ⟨vj, ej, fj⟩ := hI j
    obtain ⟨va, ea, _⟩ := hI A.p
    obtain ⟨vb, eb, _⟩ := hI B.p
    refine ⟨v, ?_, fun hz => by rw [f (by rw [hk']; exact hz), ej]; exact fj hz⟩
    have hput : insE (delE (ino t A.p).es A.n) ⟨A.n, A.i⟩ = (ino t A.p).es := by
      have := insE_delE R.fnd
      rw [hAl] at this; exact this
    have hes : (ino (movT (mvT t A B) ⟨B.p, B.n, A.i⟩ ⟨A.p, A.n, -1⟩) j).es = (ino t j).es := by
      rw [movT_ino pb pa]
      simp only
      rw [ea, eb]
      simp only [if_true]
      by_cases e1 : A.p = B.p
      · rw [if_pos e1, if_pos e1.symm]
        have e9 := delE_insE (delE (ino t A.p).es A.n) ⟨B.n, A.i⟩
        simp only at e9
        rw [e9, hput]
        by_cases e2 : j = A.p
        · rw [if_pos e2, e2]
        · rw [if_neg e2, if_neg (fun h => e2 (h.trans e1.symm)), ej]
          simp only
          rw [if_neg (fun h => e2 (h.trans e1.symm)), if_neg e2]
      · rw [if_neg e1, if_neg (show ¬ B.p = A.p from fun h => e1 h.symm)]
        have e9 := delE_insE (ino t B.p).es ⟨B.n, A.i⟩
        simp only at e9
        rw [e9, if_neg e1, hput]
        by_cases e2 : j = A.p
        · rw [if_pos e2, e2]
        · rw [if_neg e2]
          by_cases e3 : j = B.p
          · rw [if_pos e3, e3]
          · rw [if_neg e3, ej]
            simp only
            rw [if_neg e3, if_neg e2]
    have h9 := movT_ino pb pa j
    rw [e]
    rw [h9] at hes ⊢
    simp only at hes
    rw [hes, ej]
  have hver : VerOk (mvT (mvT t A B) ⟨B.p, B.n, A.i⟩ ⟨A.p, A.n, -1⟩) := mvT_ver (verOk_of hv') (by rw [hl']; exact V.par) (by rw [hl']; exact R.par)
  have hyl : (mvT (mvT t A B) ⟨B.p, B.n, A.i⟩ ⟨A.p, A.n, -1⟩).length = t.length := by rw [mvT_len, hl']
  have hvy := same_valid hv hyl hyI hver
  have hapy : applyF (mvT t A B) (rnq r.t r.p) = (mvT (mvT t A B) ⟨B.p, B.n, A.i⟩ ⟨A.p, A.n, -1⟩, replyF (mvT (mvT t A B) ⟨B.p, B.n, A.i⟩ ⟨A.p, A.n, -1⟩) (rnq r.t r.p) A.i.toNat) := by
    unfold applyF
    rw [perfF_at.2.2.2.2.2.2.2.2.1 rfl, hmv2]
    simp only
    rw [if_neg (by simp), if_neg (by rw [hvy]; simp)]
  rw [hap]
  simp only
  rw [hapy]
  simp only
  obtain ⟨j, hj⟩ := resP_resT h1 (splitL r.p) P0 A 0 hAr (by omega) (by decide)
  have hj : resT (tr t) (splitL r.p) 0 0 = (A.i.toNat, 0, j) := hj
  refine ⟨A.i.toNat, rnq_ok hpt G.p, ?_, ?_, ?_, ?_, ?_, hyl, fun j => ?_⟩
  · unfold replyF
    rw [if_neg (by omega), if_neg (by omega), if_neg (by omega)]
    rfl
  · rw [lookF_res hv hsp, hj]
  · rw [lookF_res hv hsp, hj]
  · unfold replyF
    rw [if_neg (show ¬ (rnq r.t r.p).k = 3 from by show ¬ (9 : Int) = 3; decide), if_neg (show ¬ (rnq r.t r.p).k = 6 from by show ¬ (9 : Int) = 6; decide), if_neg (show ¬ (rnq r.t r.p).k = 8 from by show ¬ (9 : Int) = 8; decide)]
  · unfold replyF
    rw [if_neg (show ¬ (rnq r.t r.p).k = 3 from by show ¬ (9 : Int) = 3; decide), if_neg (show ¬ (rnq r.t r.p).k = 6 from by show ¬ (9 : Int) = 6; decide), if_neg (show ¬ (rnq r.t r.p).k = 8 from by show ¬ (9 : Int) = 8; decide)]
    rfl
  · obtain ⟨v, e, _⟩ := hyI j
    exact ⟨v, e⟩
end Go.Proofs.YtmbbmmnpkdfecaaGreatDoor
