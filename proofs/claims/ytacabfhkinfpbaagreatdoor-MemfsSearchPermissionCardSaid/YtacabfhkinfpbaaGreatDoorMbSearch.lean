/- A request fails if its user may not search one of the directories on its path: the law MemfsSearchPermission.
   Condition: as each theorem states; this text: MfSearch, MfLawSearch, MfSearchProof. -/
import Derived.Test.YtacabfhkinfpbaaGreatDoorMb34
import Derived.Test.YtacabfhkinfpbaaGreatDoorMb10
import Derived.Test.YtacabfhkinfpbaaGreatDoorCards
import Derived.Test.YtacabfhkinfpbaaGreatDoorTie
import Derived.Test.YtacabfhkinfpbaaGreatDoorMb32
import Derived.ProofKit
import Derived.SizedLaws
import Derived.OpenShut
import Derived.ShutString
import Derived.ChangeMaps5
import Derived.Deep.DeepHandedRow
import Derived.Lay
import Derived.LaidMore
import Derived.SevenTiedAt

set_option linter.all false

/- A request whose path cannot be resolved answers the code of the walk, and the walk stops where the user may not search: in plain words. No program. -/
namespace Go.Proofs.YtacabfhkinfpbaaGreatDoor
open Go.RowKit

theorem exist_bad {t : FT} {u : Int} {p : ByteArray} (h : (resolveF t u p).2 ≠ 0) : (existF t u p).2 = (resolveF t u p).2 := by
  unfold existF unlessF; rw [if_neg (fun h' => h h'.1)]
theorem entry_bad {t : FT} {u : Int} {p : ByteArray} (h : (resolveF t u p).2 ≠ 0) : (entryF t u p).2 = (resolveF t u p).2 := by
  unfold entryF; rw [if_pos h]
theorem vacant_bad {t : FT} {u : Int} {p : ByteArray} (h : (resolveF t u p).2 ≠ 0) : (vacantF t u p).2 = (resolveF t u p).2 := by
  unfold vacantF; rw [if_neg (fun h' => h (by rw [← entry_bad h]; exact h'.1))]; exact entry_bad h
theorem remove_bad {t : FT} {u : Int} {p : ByteArray} (h : (resolveF t u p).2 ≠ 0) : (removeF t u p).2 = (resolveF t u p).2 := by
  unfold removeF unlessF; rw [if_neg (fun h' => h (by rw [← entry_bad h]; exact h'.1))]; exact entry_bad h
theorem reach_bad {t : FT} {u : Int} {p : ByteArray} (h : (resolveF t u p).2 ≠ 0) (kind perm : Int) : (reachF t u p kind perm).2 = (resolveF t u p).2 := by
  unfold reachF; rw [if_pos (by rw [exist_bad h]; exact h)]; exact exist_bad h
theorem perf_bad {t : FT} {r : Rq} (h : (resolveF t r.u r.p).2 ≠ 0) : (perfF t r).1.2 = (resolveF t r.u r.p).2 := by
  have m : ∀ k, (mkF t r k).1.2 = (resolveF t r.u r.p).2 := fun k => by
    unfold mkF; rw [if_pos (by rw [vacant_bad h]; exact h)]; exact vacant_bad h
  have c : ∀ kind perm, (changeF t r kind perm).1.2 = (resolveF t r.u r.p).2 := fun kind perm => by
    unfold changeF; rw [if_pos (by rw [reach_bad h]; exact h)]; exact reach_bad h _ _
  have q : ∀ kind perm, ((reachF t r.u r.p kind perm, t) : (Int × Int) × FT).1.2 = (resolveF t r.u r.p).2 := fun kind perm => reach_bad h _ _
  have rm : (rmF t r).1.2 = (resolveF t r.u r.p).2 := by
    unfold rmF; rw [if_pos (by rw [remove_bad h]; exact h)]; exact remove_bad h
  have mv : (mvF t r).1.2 = (resolveF t r.u r.p).2 := by
    unfold mvF; rw [if_pos (by rw [remove_bad h]; exact h)]; exact remove_bad h
  have li : (linkW t r).1.2 = (resolveF t r.u r.p).2 := by
    unfold linkW; rw [if_pos (by rw [reach_bad h]; exact h)]; exact reach_bad h _ _
  unfold perfF
  by_cases hk : r.k = 1
  · rw [if_pos hk]; exact m _
  rw [if_neg hk]; clear hk
  by_cases hk : r.k = 2
  · rw [if_pos hk]; exact m _
  rw [if_neg hk]; clear hk
  by_cases hk : r.k = 3
  · rw [if_pos hk]; exact q _ _
  rw [if_neg hk]; clear hk
  by_cases hk : r.k = 4 ∨ r.k = 5
  · rw [if_pos hk]; exact c _ _
  rw [if_neg hk]; clear hk
  by_cases hk : r.k = 6
  · rw [if_pos hk]; exact q _ _
  rw [if_neg hk]; clear hk
  by_cases hk : r.k = 8
  · rw [if_pos hk]; exact rm
  rw [if_neg hk]; clear hk
  by_cases hk : r.k = 9
  · rw [if_pos hk]; exact mv
  rw [if_neg hk]; clear hk
  by_cases hk : r.k = 10
  · rw [if_pos hk]; exact li
  rw [if_neg hk]; clear hk
  by_cases hk : r.k = 11 ∨ r.k = 14
  · rw [if_pos hk]; exact c _ _
  rw [if_neg hk]; clear hk
  by_cases hk : r.k = 13
  · rw [if_pos hk]; exact c _ _
  rw [if_neg hk]; clear hk
  by_cases hk : r.k = 12
  · rw [if_pos hk]; exact c _ _
  rw [if_neg hk]; clear hk
  exact q _ _
theorem apply_bad {t : FT} {r : Rq} (h : (resolveF t r.u r.p).2 ≠ 0) : applyF t r = (t, RpC (resolveF t r.u r.p).2) := by
  unfold applyF; rw [if_pos (by rw [perf_bad h]; exact h), perf_bad h]

theorem resT_snoc (t : Tr) : ∀ (xs : List ByteArray) (x : ByteArray) (n i : Nat), resT t (xs ++ [x]) n i = if (resT t xs n i).2.1 ≠ 0 then resT t xs n i else if (nod t (resT t xs n i).1).k = 2 then (0, 8, i + xs.length) else if fndE (kids t (resT t xs n i).1) x = true then (((kids t (resT t xs n i).1).getD (lowE (kids t (resT t xs n i).1) x) D0).i.toNat, 0, 0) else (0, 6, i + xs.length)
  | [], x, n, i => by simp [resT]
  | y :: ys, x, n, i => by
    rw [List.cons_append, resT, resT]
    by_cases h1 : (nod t n).k = 2
    · rw [if_pos h1, if_pos h1, if_pos (show (8 : Int) ≠ 0 by decide)]
    · rw [if_neg h1, if_neg h1]
      by_cases h2 : fndE (kids t n) y = true
      · rw [if_pos h2, if_pos h2, resT_snoc t ys x _ (i + 1), List.length_cons, show i + 1 + ys.length = i + (ys.length + 1) by omega]
      · rw [if_neg h2, if_neg h2, if_pos (show (6 : Int) ≠ 0 by decide)]

/-- Where the walk stands behind i names: it may go on from a. -/
structure PI (t : FT) (u : Int) (xs : List ByteArray) (i : Nat) (a : Pl) : Prop where
  go : resP t u xs P0 = resP t u (xs.drop i) a
  at_ : (a.i = -1 ∧ (resT (tr t) (xs.take i) 0 0).2.1 = 6) ∨ (0 ≤ a.i ∧ a.i.toNat < t.length ∧ (ino t a.i.toNat).k ≠ 0 ∧ resT (tr t) (xs.take i) 0 0 = (a.i.toNat, 0, 0))
theorem PI.zero {t : FT} (h1 : Ok1 (tr t)) (u : Int) (xs : List ByteArray) : PI t u xs 0 P0 := by
  have h0 := h1.ne
  have hr := h1.root
  rw [tr_len] at h0
  rw [nod_tr] at hr
  exact ⟨rfl, .inr ⟨by decide, h0, by rw [show (P0.i.toNat) = 0 from rfl]; rw [show (ino t 0).k = (ino t 0).nod.k from rfl, hr]; decide, rfl⟩⟩
/-- One name further. -/
theorem PI.step {t : FT} {u : Int} {xs : List ByteArray} {i : Nat} {a : Pl} (h1 : Ok1 (tr t)) (h : PI t u xs i a) (hi : i < xs.length) :
    ((resT (tr t) (xs.take i) 0 0).2.1 ≠ 0 ∧ (resP t u xs P0).2 = 6) ∨
    ((resT (tr t) (xs.take i) 0 0).2.1 = 0 ∧ ∃ n, (resT (tr t) (xs.take i) 0 0).1 = n ∧ n < t.length ∧
      (((ino t n).k ≠ 1 ∧ (resP t u xs P0).2 = 8) ∨ ((ino t n).k = 1 ∧ ((alw t n u 4 = false ∧ (resP t u xs P0).2 = 13) ∨ (alw t n u 4 = true ∧ ∃ a', PI t u xs (i + 1) a'))))) := by
  obtain ⟨hgo, hat⟩ := h
  rcases hat with ⟨h2, h3⟩ | ⟨h2, h3, h4, h5⟩
  · exact .inl ⟨by rw [h3]; decide, by rw [hgo, resP_miss hi h2]⟩
  · have hm : a.i ≠ -1 := by omega
    refine .inr ⟨by rw [h5], a.i.toNat, by rw [h5], h3, ?_⟩
    have hk := (h1.fine a.i.toNat).kind
    rw [nod_tr] at hk
    have hk' : (ino t a.i.toNat).k = 0 ∨ (ino t a.i.toNat).k = 1 ∨ (ino t a.i.toNat).k = 2 := hk
    by_cases e : (ino t a.i.toNat).k = 1
    · refine .inr ⟨e, ?_⟩
      cases hq : alw t a.i.toNat u 4 with
      | false => exact .inl ⟨rfl, by rw [hgo, resP_no hi hm (by rw [e]; decide) hq]⟩
      | true =>
        refine .inr ⟨rfl, ⟨a.i.toNat, xs.getD i ByteArray.empty, lookE (ino t a.i.toNat).es (xs.getD i ByteArray.empty)⟩, by rw [hgo, resP_step hi hm (by rw [e]; decide) hq], ?_⟩
        have hts : xs.take (i + 1) = xs.take i ++ [xs.getD i ByteArray.empty] := by
          rw [List.take_succ_eq_append_getElem hi, List.getD_eq_getElem?_getD, List.getElem?_eq_getElem hi]; rfl
        have hks : kids (tr t) a.i.toNat = (ino t a.i.toNat).es := by unfold kids; rw [nod_tr]; rfl
        have hrs : resT (tr t) (xs.take (i + 1)) 0 0 = if fndE (ino t a.i.toNat).es (xs.getD i ByteArray.empty) = true then (((ino t a.i.toNat).es.getD (lowE (ino t a.i.toNat).es (xs.getD i ByteArray.empty)) D0).i.toNat, 0, 0) else (0, 6, 0 + (xs.take i).length) := by
          rw [hts, resT_snoc, h5]
          simp only
          rw [if_neg (by decide), if_neg (by rw [nod_tr]; rw [show (ino t a.i.toNat).nod.k = (ino t a.i.toNat).k from rfl, e]; decide), hks]
        rw [hrs]
        unfold lookE
        by_cases hf : fndE (ino t a.i.toNat).es (xs.getD i ByteArray.empty) = true
        · rw [if_pos hf, if_pos hf]
          obtain ⟨_, k2, k3, k4⟩ := kid_found h1 (n := a.i.toNat) (x := xs.getD i ByteArray.empty) (by rw [hks]; exact hf)
          rw [hks] at k2 k3 k4
          rw [tr_len] at k3
          rw [nod_tr] at k4
          exact .inr ⟨Int.le_of_lt k2, k3, k4, rfl⟩
        · rw [if_neg hf, if_neg hf]
          exact .inl ⟨rfl, rfl⟩
    · exact .inl ⟨e, by rw [hgo, resP_file hi hm (by rcases hk' with h | h | h; exact absurd h h4; exact absurd h e; exact h)]⟩

end Go.Proofs.YtacabfhkinfpbaaGreatDoor

/- A request fails if its user may not search one of the directories on its path: the law MemfsSearchPermission returns true. Conditions: the tree and the request lie in memory as they read; the door's variable lies in memory. -/
namespace Go.Proofs.YtacabfhkinfpbaaGreatDoor
open Go.RowKit

set_option maxRecDepth 100000 in
set_option maxHeartbeats 6400000 in
theorem lawSearchBad_any (a : Option Addr) (c : Nat) (t : FT) (r : Rq) (vd va : Value) (w : World) (gm : GM w) (h : FNods w w.heap.size a c t) (hr : RqS w w.heap.size vd va r) (hbad : ¬ ((valT (tr t)).1 = 0 ∧ rqC r = 0)) :
    Calls Tryz.prog 9 #[.agg #[.slice a t.length c], rqV r vd va] w fun e w' => e = .returned (.bool true) ∧ Below w.heap.size w w' := by
  obtain ⟨qa, qc, rfl, hqd⟩ := id hr.d
  obtain ⟨pa, pc, rfl, hpd⟩ := id hr.ac
  clear hqd hpd
  have T := Lib.hid (two_new w [.slice a t.length c] (rqL r (.slice qa r.d.length qc) (.slice pa r.ac.length pc)) 24 30)
  unfold rqL at T
  have CE := Lib.hid (fun W (hb : Below w.heap.size w W) => example_any W (gm.below hb))
  have CA := Lib.hid (fun W (hb : Below w.heap.size w W) => (applyFault_any a c t r (.slice qa r.d.length qc) (.slice pa r.ac.length pc) W (gm.below hb) (h.up hb) (hr.up hb) hbad).2)
  have hne := (applyFault_any a c t r (.slice qa r.d.length qc) (.slice pa r.ac.length pc) w gm h hr hbad).1
  clear gm h hr hbad
  unfold rpV at CA
  generalize (fltF t r).1 = fc at *
  generalize (fltF t r).2 = fi at *
  have hcc : (fc != 0) = true := by simpa using hne
  clear hne
  unfold rqV at *
  go_enter Tryz.func9, Tryz.ntmps9
  go_upto_region 1 with fail
  generalize (w.alloc (.cells #[.slice a t.length c] 24)).alloc (.cells #[.int .i64 r.k, .int .i64 r.u, .string r.p, .string r.t, .int .i64 r.off, .int .i64 r.sz, .slice qa r.d.length qc, .slice pa r.ac.length pc, .string r.a.n, .string r.a.v] 30) = w2 at *
  generalize w.heap.size + 1 = N at *
  obtain ⟨tb, tt, tr'⟩ := T.out
  have B2 := Lib.hid tb
  have KT := Lib.hid tt
  have KR := Lib.hid tr'
  clear tb tt tr' T
  have k0 := KT.out.c 0 _ rfl
  have u0 := KR.out.c 0 _ rfl
  have u1 := KR.out.c 1 _ rfl
  have u2 := KR.out.c 2 _ rfl
  have u3 := KR.out.c 3 _ rfl
  have u4 := KR.out.c 4 _ rfl
  have u5 := KR.out.c 5 _ rfl
  have u6 := KR.out.c 6 _ rfl
  have u7 := KR.out.c 7 _ rfl
  have u8 := KR.out.c 8 _ rfl
  have u9 := KR.out.c 9 _ rfl
  have kl := KT.out.lt
  have ul := KR.out.lt
  go_wp2_with fail
  refine (CA.out _ B2.out).mono ?_
  rintro e z ⟨hbz, rfl⟩
  have BZ := Lib.hid (B2.out.trans (hbz.mono B2.out.size))
  clear hbz k0 u0 u1 u2 u3 u4 u5 u6 u7 u8 u9 kl ul KT KR
  have TN := Lib.hid (three_new z [.slice none 0 0] [.int .i64 0, .slice none 0 0, .slice none 0 0, .int .i64 0, .int .i64 0, .int .i64 0, .int .i64 0, .int .i64 0, .int .i64 0] [.int .i64 fc, .int .i64 fi] 24 35 37)
  go_upto_region 2 with fail
  have B5 := Lib.hid (BZ.out.trans (TN.out.1.mono BZ.out.size))
  generalize ((z.alloc (.cells #[.slice none 0 0] 24)).alloc (.cells #[.int .i64 0, .slice none 0 0, .slice none 0 0, .int .i64 0, .int .i64 0, .int .i64 0, .int .i64 0, .int .i64 0, .int .i64 0] 35)).alloc (.cells #[.int .i64 fc, .int .i64 fi] 37) = w5 at *
  generalize z.heap.size + 1 + 1 = n3 at *
  generalize z.heap.size + 1 = n2 at *
  generalize z.heap.size = n1 at *
  go_wp2_with fail
  refine (CE.out _ B5.out).mono ?_
  rintro e w6 ⟨rfl, b6⟩
  have B6 := Lib.hid (B5.out.trans (b6.mono B5.out.size))
  obtain ⟨_, TU, TP, TF⟩ := TN.out
  have K1 := TU.up b6
  have K2 := TP.up b6
  have K3 := TF.up b6
  have t0 := K1.c 0 _ rfl
  have tl := K1.lt
  have p0 := K2.c 0 _ rfl
  have p1 := K2.c 1 _ rfl
  have p2 := K2.c 2 _ rfl
  have p3 := K2.c 3 _ rfl
  have p4 := K2.c 4 _ rfl
  have p5 := K2.c 5 _ rfl
  have p6 := K2.c 6 _ rfl
  have p7 := K2.c 7 _ rfl
  have p8 := K2.c 8 _ rfl
  have pl := K2.lt
  have f0 := K3.c 0 _ rfl
  have fl := K3.lt
  clear b6 TU TP TF K1 K2 K3 TN
  go_wp2
  all_goals
    go_ret
    exact ⟨rfl, B6.out⟩


theorem alw_val {t : FT} {u : Int} (h1 : Ok1 (tr t)) (hu : usrB u = true) {n : Nat} (hn : n < t.length) : allV (ino t n).nod.ac (ino t n).nod.o u 4 = .tuple #[.bool (alw t n u 4), .agg #[.int .i64 0, .int .i64 0]] := by
  have N := nok_of (h1.code n (by rw [tr_len]; exact hn))
  rw [nod_tr] at N
  have h2 := valF_zero N.ac
  have h3 : usr (ino t n).nod.o = true := by unfold usr; exact decide_eq_true ⟨N.o0, N.o7⟩
  have h4 : usr u = true := hu
  have hc : allC (ino t n).nod.ac (ino t n).nod.o u 4 = (0, 0) := by
    unfold allC usrF
    rw [h2, h3, h4]
    simp [prm]
  unfold allV
  rw [hc]
  rfl
theorem FNods.one {w : World} {a : Option Addr} {c : Nat} {t : FT} (h : FNods w w.heap.size a c t) {n : Nat} (hn : n < t.length) : ∃ b o, a = some ⟨b, o, none⟩ ∧ b < w.heap.size ∧ ∃ s : Sl, NodC w b (o + n * 8) s.e s.d s.a s.x (ino t n).nod ∧ NodS w w.heap.size s.e s.d s.a s.x (ino t n).nod := by
  obtain ⟨b, o, ha, hb, hj⟩ := h.at_ (by omega)
  obtain ⟨s, h1, h2, _⟩ := hj n hn
  exact ⟨b, o, ha, hb, s, h1, h2⟩

/-- What holds while the names of the path are walked. -/
structure SI (w wr : World) (N n1 n2 g cap : Nat) (a : Option Addr) (c : Nat) (t t' : FT) (rl pl : List Value) (v : Value) (xs : List ByteArray) : Prop where
  b : Below w.heap.size w wr
  kt : Blk wr w.heap.size [.slice a t.length c]
  kr : Blk wr N rl
  k1 : Blk wr n1 [.slice (some ⟨g, 0, none⟩) t'.length cap]
  k2 : Blk wr n2 pl
  fn : FNods wr wr.heap.size a c t
  o : FNods wr wr.heap.size (some ⟨g, 0, none⟩) cap t'
  v : Strs wr wr.heap.size v xs
theorem SI.step {w wr z : World} {N n1 n2 g cap : Nat} {a : Option Addr} {c : Nat} {t t' : FT} {rl pl : List Value} {v : Value} {xs : List ByteArray} (h : SI w wr N n1 n2 g cap a c t t' rl pl v xs) (hb : Below wr.heap.size wr z) : SI w z N n1 n2 g cap a c t t' rl pl v xs :=
  ⟨h.b.trans (hb.mono h.b.size), h.kt.up hb, h.kr.up hb, h.k1.up hb, h.k2.up hb, h.fn.up hb, h.o.up hb, h.v.up hb⟩

set_option maxRecDepth 100000 in
set_option maxHeartbeats 6400000 in
theorem lawSearchOk_any (a : Option Addr) (c : Nat) (t : FT) (r : Rq) (vd va : Value) (w : World) (gm : GM w) (h : FNods w w.heap.size a c t) (hr : RqS w w.heap.size vd va r) (hv : (valT (tr t)).1 = 0) (hq : rqC r = 0) :
    Calls Tryz.prog 9 #[.agg #[.slice a t.length c], rqV r vd va] w fun e w' => e = .returned (.bool true) ∧ Below w.heap.size w w' := by
  obtain ⟨qa, qc, rfl, hqd⟩ := id hr.d
  obtain ⟨pa, pc, rfl, hpd⟩ := id hr.ac
  clear hqd hpd
  have T := Lib.hid (two_new w [.slice a t.length c] (rqL r (.slice qa r.d.length qc) (.slice pa r.ac.length pc)) 24 30)
  unfold rqL at T
  have CE := Lib.hid (fun W (hb : Below w.heap.size w W) => example_any W (gm.below hb))
  have CA := Lib.hid (fun W (hb : Below w.heap.size w W) => applyOk_any a c t r (.slice qa r.d.length qc) (.slice pa r.ac.length pc) W (gm.below hb) (h.up hb) (hr.up hb) hv hq)
  have O1 := Lib.hid (ok1_of hv)
  have RG := rqG_of hq
  have hsp : splitF r.p = (0, 0) := by
    have h0 : (splitF r.p).1 = 0 := by simpa [pathB] using RG.p
    have h1 := splitF_zero h0
    exact Prod.ext h0 h1
  have HU := Lib.hid RG.u
  have CP := Lib.hid (fun W => refSplit_any r.p W hr.p)
  unfold SplitPost at CP
  rw [hsp] at CP
  have PZ := Lib.hid (PI.zero (ok1_of hv) r.u (splitL r.p))
  have HB := Lib.hid (fun hc => (apply_bad (t := t) (r := r) hc))
  unfold resolveF at HB
  have HT := Lib.hid h
  unfold rpV at CA
  clear gm h hr hv RG hsp
  generalize splitL r.p = xs at *
  generalize applyF t r = AF at *
  obtain ⟨t', p⟩ := AF
  simp only at CA
  unfold rqV at *
  go_enter Tryz.func9, Tryz.ntmps9
  go_upto_region 1 with fail
  generalize (w.alloc (.cells #[.slice a t.length c] 24)).alloc (.cells #[.int .i64 r.k, .int .i64 r.u, .string r.p, .string r.t, .int .i64 r.off, .int .i64 r.sz, .slice qa r.d.length qc, .slice pa r.ac.length pc, .string r.a.n, .string r.a.v] 30) = w2 at *
  generalize w.heap.size + 1 = N at *
  obtain ⟨tb, tt, tr'⟩ := T.out
  have B2 := Lib.hid tb
  have KT := Lib.hid tt
  have KR := Lib.hid tr'
  clear tb tt tr' T
  have k0 := KT.out.c 0 _ rfl
  have u0 := KR.out.c 0 _ rfl
  have u1 := KR.out.c 1 _ rfl
  have u2 := KR.out.c 2 _ rfl
  have u3 := KR.out.c 3 _ rfl
  have u4 := KR.out.c 4 _ rfl
  have u5 := KR.out.c 5 _ rfl
  have u6 := KR.out.c 6 _ rfl
  have u7 := KR.out.c 7 _ rfl
  have u8 := KR.out.c 8 _ rfl
  have u9 := KR.out.c 9 _ rfl
  have kl := KT.out.lt
  have ul := KR.out.lt
  go_wp2_with fail
  refine (CA.out _ B2.out).mono ?_
  rintro e z ⟨hbz, g, cap, sl, vd', vn', rfl, ho, hs⟩
  obtain ⟨da, dc, rfl, hda⟩ := id hs.d
  obtain ⟨na, nc, rfl, hna⟩ := id hs.ns
  have BZ := Lib.hid (B2.out.trans (hbz.mono B2.out.size))
  have KTZ := Lib.hid (KT.out.up hbz)
  have KRZ := Lib.hid (KR.out.up hbz)
  have OZ := Lib.hid ho
  have SZ := Lib.hid hs
  clear hda hna hbz ho hs k0 u0 u1 u2 u3 u4 u5 u6 u7 u8 u9 kl ul KT KR
  have TN := Lib.hid (three_new z [.slice (some ⟨g, 0, none⟩) t'.length cap] [.int .i64 p.c, .slice da p.d.length dc, .slice na p.ns.length nc, .int .i64 p.s.i, .int .i64 p.s.k, .int .i64 p.s.o, .int .i64 p.s.z, .int .i64 p.s.l, .int .i64 p.s.v] [.int .i64 0, .int .i64 0] 24 35 37)
  go_upto_region 2 with fail
  have B5 := Lib.hid (BZ.out.trans (TN.out.1.mono BZ.out.size))
  generalize ((z.alloc (.cells #[.slice (some ⟨g, 0, none⟩) t'.length cap] 24)).alloc (.cells #[.int .i64 p.c, .slice da p.d.length dc, .slice na p.ns.length nc, .int .i64 p.s.i, .int .i64 p.s.k, .int .i64 p.s.o, .int .i64 p.s.z, .int .i64 p.s.l, .int .i64 p.s.v] 35)).alloc (.cells #[.int .i64 0, .int .i64 0] 37) = w5 at *
  generalize z.heap.size + 1 + 1 = n3 at *
  generalize z.heap.size + 1 = n2 at *
  generalize hn1 : z.heap.size = n1 at *
  go_wp2_with fail
  refine (CE.out _ B5.out).mono ?_
  rintro e w6 ⟨rfl, b6⟩
  have B6 := Lib.hid (B5.out.trans (b6.mono B5.out.size))
  obtain ⟨b5, TU, TP, TF⟩ := TN.out
  rw [← hn1] at b5
  have bz6 : Below z.heap.size z w6 := b5.trans (b6.mono b5.size)
  have K3 := TF.up b6
  have f0 := K3.c 0 _ rfl
  have fl := K3.lt
  have O6 := Lib.hid (OZ.out.up bz6)
  have K1 := Lib.hid (TU.up b6)
  have K2 := Lib.hid (TP.up b6)
  have KT6 := Lib.hid (KTZ.out.up bz6)
  have KR6 := Lib.hid (KRZ.out.up bz6)
  have r2 := KR6.out.c 2 _ rfl
  have rl := KR6.out.lt
  clear b6 b5 bz6 TU TP TF K3 TN hn1 OZ SZ KTZ KRZ
  go_wp2_with fail
  refine (CP.out _).mono ?_
  rintro e w7 ⟨v, rfl, hvs, b7, _⟩
  obtain ⟨sa, sc, rfl, hsc, _⟩ := id hvs
  have S7 := Lib.hid (show SI w w7 N n1 n2 g cap a c t t' [.int .i64 r.k, .int .i64 r.u, .string r.p, .string r.t, .int .i64 r.off, .int .i64 r.sz, .slice qa r.d.length qc, .slice pa r.ac.length pc, .string r.a.n, .string r.a.v] [.int .i64 p.c, .slice da p.d.length dc, .slice na p.ns.length nc, .int .i64 p.s.i, .int .i64 p.s.k, .int .i64 p.s.o, .int .i64 p.s.z, .int .i64 p.s.l, .int .i64 p.s.v] (.slice sa xs.length sc) xs from
    ⟨B6.out.trans (b7.mono B6.out.size), KT6.out.up b7, KR6.out.up b7, K1.out.up b7, K2.out.up b7, HT.out.up (B6.out.trans (b7.mono B6.out.size)), O6.out.fnods.up b7, hvs⟩)
  clear b7 hvs r2 rl f0 fl K1 K2 KT6 KR6 O6 B6 B5 BZ CA CE
  go_upto_region 7 with fail
  have S8 := Lib.hid (S7.out.step ((Below.refl _ _).alloc (Nat.le_refl _) (.cells #[.int .i64 0, .int .i64 0] 37)))
  obtain ⟨fl, f0, _, _, _⟩ := FBox.new w7 0 0 37
  generalize w7.alloc (.cells #[.int .i64 0, .int .i64 0] 37) = w8 at *
  generalize w7.heap.size = F9 at *
  have r1 := S8.out.kr.c 1 _ rfl
  have rl := S8.out.kr.lt
  clear S7
  by_cases hu0 : r.u = 0
  · rw [hu0] at r1
    go_wp2
    go_ret
    exact ⟨rfl, S8.out.b⟩
  have hub : (r.u == 0) = false := by simpa using hu0
  clear hu0
  go_wp2_with fail
  clear f0 fl r1 rl
  go_loopg [10] xs.length (fun gg s10 wr => ∃ i : Nat, i ≤ xs.length ∧ xs.length - i ≤ gg ∧ s10 = .int .i64 i ∧ Aside (SI w wr N n1 n2 g cap a c t t' [.int .i64 r.k, .int .i64 r.u, .string r.p, .string r.t, .int .i64 r.off, .int .i64 r.sz, .slice qa r.d.length qc, .slice pa r.ac.length pc, .string r.a.n, .string r.a.v] [.int .i64 p.c, .slice da p.d.length dc, .slice na p.ns.length nc, .int .i64 p.s.i, .int .i64 p.s.k, .int .i64 p.s.o, .int .i64 p.s.z, .int .i64 p.s.l, .int .i64 p.s.v] (.slice sa xs.length sc) xs) ∧ Aside (∃ q, PI t r.u xs i q))
  case atStart => exact ⟨0, by omega, by omega, rfl, S8.out, P0, PZ.out⟩
  case round =>
    clear S8 PZ
    obtain ⟨i, hi, hg, rfl, I, P⟩ := hrel
    obtain ⟨w2, rfl⟩ : ∃ w2 : World, w2 = wr := ⟨_, rfl⟩
    by_cases hlt : i < xs.length
    · have hltz : (i : Int) < (xs.length : Int) := by omega
      have hi0 : (0 : Int) ≤ (i : Int) := Int.natCast_nonneg _
      have hicz : (i : Int) ≤ (sc : Int) := by omega
      have hm9 : xs.length - (i + 1) < xs.length - i := Nat.sub_lt_sub_left hlt (Nat.lt_succ_self i)
      obtain ⟨q0, hq0⟩ := P.out
      have HS := Lib.hid (PI.step O1.out hq0 hlt)
      have CR := Lib.hid (fun W (hb : Below w2.heap.size w2 W) => refResolve_any a c (tr t) (.slice sa i sc) (xs.take i) W O1.out (I.out.fn.up hb).nods ((I.out.v.take i (by omega)).up hb))
      simp only [tr_len] at CR
      clear hq0 P
      generalize resT (tr t) (xs.take i) 0 0 = R at *
      obtain ⟨Rn, Re, Rp⟩ := R
      simp only at CR HS
      have tc := I.out.kt.c 0 _ rfl
      have tl := I.out.kt.lt
      go_wp2_with fail
      go_cut [11, 12, 13] from 56 to 63 (fun s11 s12 s13 wx => s11 = .int .i64 (Rn : Nat) ∧ s12 = .int .i64 Re ∧ s13 = .int .i64 (Rp : Nat) ∧ Below w2.heap.size w2 wx)
      case first =>
        go_region_with (go_at_call 23; refine (CR.out _ (below_drewN (Below.refl _ _) _)).mono ?_; rintro e y ⟨rfl, hb9⟩; have hbz : Below w2.heap.size w2 y := (below_drewN (Below.refl w2.heap.size w2) _).trans (hb9.mono (Nat.le_refl _)))
        all_goals
          go_wp2_with fail
          go_meet
          exact ⟨rfl, rfl, rfl, hbz⟩
      case rest =>
        obtain ⟨rfl, rfl, rfl, bx⟩ := hcut
        have IC := Lib.hid (I.out.step bx)
        clear bx I CR tc tl
        obtain ⟨w3, rfl⟩ : ∃ w3 : World, w3 = wc := ⟨_, rfl⟩
        have p0 := IC.out.k2.c 0 _ rfl
        have pl := IC.out.k2.lt
        rcases HS.out with ⟨he, hc⟩ | ⟨he, n, hn', hn, hh⟩
        · have hRe : (Re != 0) = true := by simpa using he
          have hpc : p.c = 6 := by
            have := HB.out (by rw [hc]; decide)
            rw [hc] at this
            injection this with _ e2
            rw [e2]
          rw [hpc] at p0
          clear he hc hpc HS HB
          go_wp2
          go_ret
          exact ⟨rfl, IC.out.b⟩
        · subst hn' he
          clear HS
          have htz : (Rn : Int) < (t.length : Int) := by omega
          have hnz : (0 : Int) ≤ (Rn : Int) := Int.natCast_nonneg _
          obtain ⟨b, o, rfl, hb, s, hcs, hs⟩ := IC.out.fn.one hn
          have tc := IC.out.kt.c 0 _ rfl
          have tl := IC.out.kt.lt
          have c0 := hcs.c0
          have c1 := hcs.c1
          have c4 := hcs.c4
          clear hcs
          rcases hh with ⟨hk, hcd⟩ | ⟨hk, hh⟩
          · have hkb : ((ino t Rn).nod.k != 1) = true := by simpa using (show ¬ (ino t Rn).nod.k = 1 from hk)
            have hpc : p.c = 8 := by
              have := HB.out (by rw [hcd]; decide)
              rw [hcd] at this
              injection this with _ e2
              rw [e2]
            rw [hpc] at p0
            clear hk hcd hpc HB c1 c4 hs
            generalize (ino t Rn).nod.k = kk at *
            go_wp2
            go_ret
            exact ⟨rfl, IC.out.b⟩
          · rw [show (ino t Rn).nod.k = 1 from hk] at c0
            have CAL := Lib.hid (fun W (hb : Below w3.heap.size w3 W) => allowed_any s.a (ino t Rn).nod.ac (ino t Rn).nod.o r.u 4 W ((hs.ac.keep (w' := W) fun b o hB => hb.cell (p := ⟨b, o, none⟩) hB).more hb.size))
            rw [alw_val O1.out HU.out hn] at CAL
            obtain ⟨aa, ac', hsa, _⟩ := id hs.ac
            rw [hsa] at c4 CAL
            clear hsa hs hk
            generalize (ino t Rn).nod.ac.length = an at *
            generalize (ino t Rn).nod.o = ow at *
            have r1 := IC.out.kr.c 1 _ rfl
            have rl := IC.out.kr.lt
            have HH := Lib.hid hh
            clear hh
            generalize alw t Rn r.u 4 = q at *
            go_wp2_with fail
            go_cut [14, 15] from 89 to 105 (fun s14 s15 wx => s14 = .bool q ∧ (∃ A : Nat, s15 = .pointer (some ⟨A, 0, none⟩) ∧ FBox wx A 0 0) ∧ Below w3.heap.size w3 wx)
            case first =>
              have HB1 := Lib.hid (show Below w3.heap.size w3 w3.drew from (Below.refl w3.heap.size w3).drew)
              have HB2 := Lib.hid (show Below w3.heap.size w3 (w3.alloc (.cells #[.int .i64 0, .int .i64 0] 37)).drew from ((Below.refl w3.heap.size w3).alloc (Nat.le_refl _) _).drew)
              have HF2 := Lib.hid ((FBox.new w3 0 0 37).below (Below.refl _ _).drew (FBox.new w3 0 0 37).lt)
              have m0 := World.new_ne w3 ⟨w.heap.size, 0, none⟩ tc
              have m1 := World.new_ne w3 ⟨N, 1, none⟩ r1
              have m2 := World.new_ne w3 ⟨b, o + Rn * 8 + 4, none⟩ c4
              have m3 := World.new_ne w3 ⟨b, o + Rn * 8 + 1, none⟩ c1
              go_region_held3 (fun y => y.cell? ⟨w.heap.size, 0, none⟩ = some (.slice (some ⟨b, o, none⟩) t.length c) ∧ y.cell? ⟨N, 1, none⟩ = some (.int .i64 r.u) ∧ y.cell? ⟨b, o + Rn * 8 + 4, none⟩ = some (.slice aa an ac') ∧ y.cell? ⟨b, o + Rn * 8 + 1, none⟩ = some (.int .i64 ow))
                (first | go_keep | exact ⟨k0, k1, k2, k3⟩)
                (first
                | (go_at_call 24; (first
                  | (refine (CAL.out _ HB1.out).mono ?_; rintro e y ⟨rfl, hb9⟩; have hbz := HB1.out.trans (hb9.mono HB1.out.size); have k0 := (hbz.cell (p := ⟨w.heap.size, 0, none⟩) tl).trans tc; have k1 := (hbz.cell (p := ⟨N, 1, none⟩) rl).trans r1; have k2 := (hbz.cell (p := ⟨b, o + Rn * 8 + 4, none⟩) hb).trans c4; have k3 := (hbz.cell (p := ⟨b, o + Rn * 8 + 1, none⟩) hb).trans c1)
                  | (refine (CAL.out _ HB2.out).mono ?_; rintro e y ⟨rfl, hb9⟩; have hbz := HB2.out.trans (hb9.mono HB2.out.size); have k0 := (hbz.cell (p := ⟨w.heap.size, 0, none⟩) tl).trans tc; have k1 := (hbz.cell (p := ⟨N, 1, none⟩) rl).trans r1; have k2 := (hbz.cell (p := ⟨b, o + Rn * 8 + 4, none⟩) hb).trans c4; have k3 := (hbz.cell (p := ⟨b, o + Rn * 8 + 1, none⟩) hb).trans c1; obtain ⟨lz, z0, z1, zf0, zf1⟩ := HF2.out.below hb9 HF2.out.lt)
                  | fail)))
              all_goals
                go_wp2_with fail
                go_meet
                first
                  | exact ⟨rfl, ⟨_, rfl, FBox.new _ _ _ _⟩, hbz.alloc hbz.size _⟩
                  | exact ⟨rfl, ⟨_, rfl, FBox.put ⟨lz, z0, z1, zf0, zf1⟩ 0 0⟩, (hbz.setCell (Nat.le_refl _) _).setCell (Nat.le_refl _) _⟩
            case rest =>
              obtain ⟨rfl, ⟨A, rfl, FA⟩, bx⟩ := hcut
              have ID := Lib.hid (IC.out.step bx)
              obtain ⟨fl, f0, _, _, _⟩ := FA
              clear IC bx CAL c0 c1 c4 r1 rl tc tl p0 pl
              obtain ⟨w4, rfl⟩ : ∃ w4 : World, w4 = wc := ⟨_, rfl⟩
              have p0 := ID.out.k2.c 0 _ rfl
              have pl := ID.out.k2.lt
              have tc := ID.out.kt.c 0 _ rfl
              have tl := ID.out.kt.lt
              have g0 := ID.out.k1.c 0 _ rfl
              have gl := ID.out.k1.lt
              rcases HH.out with ⟨rfl, hcd⟩ | ⟨rfl, hP⟩
              · have hE := HB.out (by rw [hcd]; decide)
                rw [hcd] at hE
                injection hE with e1 e2
                have hpc : p.c = 13 := by rw [e2]
                rw [hpc] at p0
                have CTS := Lib.hid (treesSame_any (some ⟨b, o, none⟩) (some ⟨g, 0, none⟩) c cap t w4 ID.out.fn (by have := ID.out.o; rwa [e1] at this))
                rw [e1] at g0
                have HI := Lib.hid ID.out.b
                clear e1 e2 hpc hcd HB HH ID
                go_wp2_with fail
                refine CTS.out.mono ?_
                rintro e w5 ⟨rfl, b5⟩
                have H5 := Lib.hid (HI.out.trans (b5.mono HI.out.size))
                clear b5
                go_wp2
                go_ret
                exact ⟨rfl, H5.out⟩
              · clear HH HB
                go_wp2
                go_roundg (xs.length - (i + 1))
                case measure => exact Nat.lt_of_lt_of_le hm9 hg
                case rel => exact ⟨i + 1, by omega, by omega, by go_num, ID.out, hP⟩
    · go_wp2
      go_ret
      exact ⟨rfl, I.out.b⟩

theorem lawSearch_any (a : Option Addr) (c : Nat) (t : FT) (r : Rq) (vd va : Value) (w : World) (gm : GM w) (h : FNods w w.heap.size a c t) (hr : RqS w w.heap.size vd va r) :
    Calls Tryz.prog 9 #[.agg #[.slice a t.length c], rqV r vd va] w fun e w' => e = .returned (.bool true) ∧ Below w.heap.size w w' := by
  by_cases hh : (valT (tr t)).1 = 0 ∧ rqC r = 0
  · exact lawSearchOk_any a c t r vd va w gm h hr hh.1 hh.2
  · exact lawSearchBad_any a c t r vd va w gm h hr hh

end Go.Proofs.YtacabfhkinfpbaaGreatDoor

/- MemfsSearchPermission: for every tree and every request the law returns true: a request fails if its user may not search one of the directories on its path; the arguments are left as they were.
   Condition: the listed variables of package unicode/utf8 hold what the program's text lays (the card ties them); no other condition on the arguments. -/
namespace Go.Proofs.YtacabfhkinfpbaaGreatDoor.rowMemfsSearchPermission
open Go.ChangeShapes Go.WideShapes Go.ChangeAt Go.ChangeMaps Go.RowKit

theorem own : ownKnob Tryz.prog.godebug = none := by kernel_rfl
theorem laidOut : laidOutB Tryz.prog = true := by kernel_rfl
theorem gm_of {W : World} (h : W.ShapedOpen Tryz.prog) : GM W := by
  obtain ⟨m, hm⟩ := Tryz.laysM146.s1_3 W h
  exact ⟨cell_lt hm, m, hm⟩

noncomputable def w0 (os : Os) : World := World.laidAll Tryz.prog os Rows.memfsSearchPermissionRow.laid
theorem laid_met (os : Os) : laidMetH Tryz.prog Rows.memfsSearchPermissionRow.laid ((w0 os).forCall (fun _ _ => 0) ⟨#[], #[.agg #[.slice none 0 0], .agg #[.int .i64 0, .int .i64 0, .string ⟨#[]⟩, .string ⟨#[]⟩, .int .i64 0, .int .i64 0, .slice none 0 0, .slice none 0 0, .string ⟨#[]⟩, .string ⟨#[]⟩]], []⟩).memory := by
  rw [MakeChecks.laidMetH_plain _ _ _ (by kernel_rfl)]; exact laidMet_laidAll _ (by kernel_rfl) (by kernel_rfl)
theorem reads (os : Os) {H : Type} (enc : TypeId × Value → H) : ∃ places, DataW.whole enc Tryz.prog ((w0 os).forCall (fun _ _ => 0) ⟨#[], #[.agg #[.slice none 0 0], .agg #[.int .i64 0, .int .i64 0, .string ⟨#[]⟩, .string ⟨#[]⟩, .int .i64 0, .int .i64 0, .slice none 0 0, .slice none 0 0, .string ⟨#[]⟩, .string ⟨#[]⟩]], []⟩).memory Tryz.f9.params.toList Rows.memfsSearchPermissionSpec.vars false (#[.agg #[.slice none 0 0], .agg #[.int .i64 0, .int .i64 0, .string ⟨#[]⟩, .string ⟨#[]⟩, .int .i64 0, .int .i64 0, .slice none 0 0, .slice none 0 0, .string ⟨#[]⟩, .string ⟨#[]⟩]] : Array Value).toList 8 = some ([.agg [.nil], .agg [.lit (.int .i64 0), .lit (.int .i64 0), .lit (.string []), .lit (.string []), .lit (.int .i64 0), .lit (.int .i64 0), .nil, .nil, .agg [.lit (.string []), .lit (.string [])]]], [], places) :=
  ⟨[], by kernel_rfl⟩
theorem okin (os : Os) : Input.okWideB Tryz.prog ((w0 os).forCall (fun _ _ => 0) ⟨#[], #[.agg #[.slice none 0 0], .agg #[.int .i64 0, .int .i64 0, .string ⟨#[]⟩, .string ⟨#[]⟩, .int .i64 0, .int .i64 0, .slice none 0 0, .slice none 0 0, .string ⟨#[]⟩, .string ⟨#[]⟩]], []⟩) 9 ⟨#[], #[.agg #[.slice none 0 0], .agg #[.int .i64 0, .int .i64 0, .string ⟨#[]⟩, .string ⟨#[]⟩, .int .i64 0, .int .i64 0, .slice none 0 0, .slice none 0 0, .string ⟨#[]⟩, .string ⟨#[]⟩]], []⟩ = true := by kernel_rfl

set_option maxRecDepth 100000 in
theorem lifted (os : Os) (started : os.Started) (H : Type) (enc : TypeId × Value → H) (F : Stop.Interp) :
    ReturnsInHanded {} Tryz.checked os 9 .any ((OpenSpec.ofChange Rows.memfsSearchPermissionSpec).preRow enc Tryz.prog Tryz.f9 Rows.memfsSearchPermissionRow.domain false Rows.memfsSearchPermissionRow.laid) (((OpenSpec.ofChange Rows.memfsSearchPermissionSpec).at F).post enc Tryz.prog Tryz.f9 false true false false) := by
  obtain ⟨places, hx⟩ := reads os enc
  refine returnsInHanded_of_row (C := Tryz.checked) (s := OpenSpec.ofChange Rows.memfsSearchPermissionSpec) own started (by kernel_rfl) Tryz.func9
    ⟨w0 os, fun _ _ => 0, ⟨#[], #[.agg #[.slice none 0 0], .agg #[.int .i64 0, .int .i64 0, .string ⟨#[]⟩, .string ⟨#[]⟩, .int .i64 0, .int .i64 0, .slice none 0 0, .slice none 0 0, .string ⟨#[]⟩, .string ⟨#[]⟩]], []⟩, World.laidAll_os _ _ _, World.shaped_of_ZipB (by kernel_rfl) (by kernel_rfl),
      (Input.okWide_of_okWideB (base := 0) (okin os)).1, (Input.okWide_of_okWideB (okin os)).2,
      OpenSpec.preRow_of_cond 8 hx (by kernel_rfl) (fun k hk => by cases hk) (by kernel_rfl) (laid_met os), by
        simp only [Assume.holds]
        exact ⟨by simp, by simp, by simp, by simp, by simp⟩⟩ ?_
  intro W base args ds gs before hval0 hW _ _ hsz0 _ hsh _
  have hsz : (DataW.weightsEach Tryz.prog (Tryz.f9.params.toList ++ (OpenSpec.ofChange Rows.memfsSearchPermissionSpec).bare.plain.varTypes Tryz.prog) (ds ++ gs)).all (· ≤ reachBytes) = true := hsz0
  clear hsz0
  have hval : ∀ (j : Nat) t v, Tryz.f9.params[j]? = some t → args[j]? = some v → Value.okWide Tryz.prog W .any base t v := hval0
  have gm := gm_of hsh
  have hW' := hW
  obtain ⟨p, q, hA0, hV, rfl, _, _⟩ := hW
  have hA : DataW.TrodAll enc Tryz.prog W 0 (fun _ => true) true Tryz.f9.params.toList args.toList ds p := hA0
  rw [Tryz.params9] at hA hval hsz
  clear hA0 hval0
  obtain ⟨v0, t0, d0, e0, p0, q0, ar0, rfl, rfl, h0, r0⟩ := trodAll_cons hA
  obtain ⟨v1, t1, d1, e1, p1, q1, ar1, rfl, rfl, h1, r1⟩ := trodAll_cons r0
  obtain ⟨rfl, rfl, rfl⟩ := trodAll_nil r1
  subst ar1
  obtain rfl : args = #[v0, v1] := by cases args; simp_all
  clear ar0
  obtain ⟨rfl, rfl⟩ := trodVars_none hV
  obtain ⟨w0, rfl, _⟩ := okWide_struct tree_under (hval 0 24 v0 rfl rfl)
  have k0 := h0
  obtain ⟨fuel0, f0⟩ := h0
  have hw0 : Held Tryz.prog 24 d0 := fun n hn => by
    have := List.all_eq_true.1 hsz _ (DataW.weights_mem_each (j := 0) (t := 24) rfl rfl n hn)
    simpa using this
  obtain ⟨a0, c0, u0, hxz0, hS0⟩ := ftree_of f0 hw0
  obtain rfl : w0 = #[.slice a0 u0.length c0] := by cases w0; simp [Value.cells] at hxz0; simp [hxz0]
  clear hxz0
  obtain ⟨w1, rfl, _⟩ := okWide_struct rq_under (hval 1 30 v1 rfl rfl)
  have k1 := h1
  obtain ⟨fuel1, f1⟩ := h1
  have hw1 : Held Tryz.prog 30 d1 := fun n hn => by
    have := List.all_eq_true.1 hsz _ (DataW.weights_mem_each (j := 1) (t := 30) rfl rfl n hn)
    simpa using this
  obtain ⟨vd1, va1, u1, hxz1, hS1⟩ := rq_of f1 hw1
  obtain rfl : w1 = #[.int .i64 u1.k, .int .i64 u1.u, .string u1.p, .string u1.t, .int .i64 u1.off, .int .i64 u1.sz, vd1, va1, .string u1.a.n, .string u1.a.v] := by cases w1; simp [Value.cells] at hxz1; simp [hxz1]
  clear hxz1
  try simp only [List.append_nil] at hW'
  have hlt : ∀ x ∈ p0 ++ (p1 ++ ([])), x.block < W.heap.size := fun x hx => hW'.lt x (by first | exact hx | simpa using hx)
  refine (lawSearch_any a0 c0 u0 u1 vd1 va1 W gm hS0 hS1).mono fun e W' ⟨he, hnx⟩ => ?_
  subst he
  exact ⟨_, rfl, _, _, _, [] ++ [], p0 ++ (p1 ++ ([])), [], hW', trodAll_mk1 (shut_bool Tryz.underlying4 true), trodAll_cons_mk (Below.trod laidOut (by kernel_rfl) (of_decide_eq_true (by kernel_rfl)) k0 hnx (fun x hx => hlt x (by simp [hx]))) (trodAll_cons_mk (Below.trod laidOut (by kernel_rfl) (of_decide_eq_true (by kernel_rfl)) k1 hnx (fun x hx => hlt x (by simp [hx]))) (trodAll_mk0)), rfl, hnx.frame _, fun h => by cases h⟩

theorem said : Rows.MemfsSearchPermissionSaid :=
  OpenClaim.holds_of_cond 9 Tryz.f9 rfl rfl rfl rfl rfl rfl rfl ⟨rfl, rfl, rfl, rfl, rfl⟩ rfl rfl rfl rfl rfl (by kernel_rfl) Tryz.func9 (by kernel_rfl)
    (of_decide_eq_true (by kernel_rfl)) (by unfold Func.isWrapper; first | (rw [if_pos (by decide +kernel)]; kernel_rfl) | (rw [if_neg (by decide +kernel)]; exact ⟨rfl, rfl⟩))
    (fun os started H enc _ F => by rw [OpenClaim.pre_eq_preRow]; exact lifted os started H enc F)

theorem plain (f : FuncId) (fn : Func) (hf : Tryz.pinned.checked.prog.funcNamed "farshelf/farshelflaw3.MemfsSearchPermission" = some f) (hfn : Tryz.pinned.checked.prog.funcs[f]? = some fn) :
    false = Tryz.pinned.checked.prog.looks [] ∧ ∀ (j : Nat) t, fn.params[j]? = some t → Tryz.pinned.checked.prog.wantsStandIn t = false := by
  obtain rfl : f = 9 := Option.some.inj ((show Tryz.prog.funcNamed "farshelf/farshelflaw3.MemfsSearchPermission" = some 9 by kernel_rfl).symm.trans hf) |>.symm
  obtain rfl : fn = Tryz.f9 := (Option.some.inj (Tryz.func9.symm.trans hfn)).symm
  refine ⟨by kernel_rfl, fun j t ht => ?_⟩
  rw [Tryz.params9] at ht
  have hm := Array.mem_of_getElem? ht
  obtain h | h : t = 24 ∨ t = 30 := by simpa using hm
  · rw [h]; exact (show Tryz.prog.wantsStandIn 24 = false by kernel_rfl)
  · rw [h]; exact (show Tryz.prog.wantsStandIn 30 = false by kernel_rfl)

theorem card : Rows.MemfsSearchPermissionCardSaid :=
  Claim7.holds_tied_plain_at .later [] _ _ _ _ said (fun _ h => by cases h) (by kernel_rfl) (fun _ h => by cases h) memfsSearchPermission_row_tie rfl ⟨rfl, rfl⟩ (by kernel_rfl) rfl plain (by kernel_rfl)
end Go.Proofs.YtacabfhkinfpbaaGreatDoor.rowMemfsSearchPermission
