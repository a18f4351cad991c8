/- Package memfs and what it calls, at this seat's translation.
   Condition: as each theorem states; this text: MfChgAny, MfChange, MfApplyF, MfValid. -/
import Derived.Test.YtmbbmmnpkdfecaaGreatDoorMb20
import Derived.Test.YtmbbmmnpkdfecaaGreatDoorMb15
import Derived.Test.YtmbbmmnpkdfecaaGreatDoorMb18

set_option linter.all false

/- changeField at every kind that changes a field. Conditions: as MfChg's. -/

set_option linter.all false
namespace Go.Proofs.YtmbbmmnpkdfecaaGreatDoor
open Go.RowKit

theorem sizeF_nn {x : Nat} {r : Rq} (ok : RqOk r) : 0 ≤ sizeF (x : Int) r := by
  have h0 := ok.o0
  have h1 := ok.z0
  unfold sizeF
  split
  · exact h1
  · split
    · omega
    · omega
def isChg (k : Int) : Prop := k = 4 ∨ k = 5 ∨ k = 11 ∨ k = 12 ∨ k = 13 ∨ k = 14
theorem changeField_any (base X g cap : Nat) (sl : Nat → Sl) (t : FT) (r : Rq) (vd va : Value) (n : Nat) (w : World) (h : XO w base X g cap sl t r vd va) (hn : n < t.length) (ok : RqOk r) (hk : isChg r.k) :
    Calls Tryz.prog 130 #[.pointer (some ⟨g, n * 8, none⟩), rqV r vd va] w fun e w' => e = .returned (.int .i64 (chgF (ino t n) r).1) ∧ MutP base X r vd va (chI t n (fun x => (chgF x r).2)) w w' := by
  have h0 := sizeF_nn (x := (ino t n).d.length) ok
  have hsz : 200 < sizeF (((ino t n).d.length : Nat) : Int) r ∨ ∃ m : Nat, sizeF (((ino t n).d.length : Nat) : Int) r = (m : Int) ∧ m ≤ 200 := by
    by_cases h1 : 200 < sizeF (((ino t n).d.length : Nat) : Int) r
    · exact .inl h1
    · exact .inr ⟨(sizeF (((ino t n).d.length : Nat) : Int) r).toNat, by omega, by omega⟩
  rcases hk with hk | hk | hk | hk | hk | hk
  · rcases hsz with hs | ⟨m, hm, hm2⟩
    · exact chg4_no base X g cap sl t r vd va n w h hn ok hk hs
    · exact chg4_ok base X g cap sl t r vd va n w h hn ok hk m hm hm2
  · rcases hsz with hs | ⟨m, hm, hm2⟩
    · exact chg5_no base X g cap sl t r vd va n w h hn ok hk hs
    · exact chg5_ok base X g cap sl t r vd va n w h hn ok hk m hm hm2
  · exact chg11_any base X g cap sl t r vd va n w h hn ok hk
  · by_cases hs : (setF (ino t n).xs r.a).1 = 0
    · exact chg12_ok base X g cap sl t r vd va n w h hn ok hk hs
    · exact chg12_no base X g cap sl t r vd va n w h hn ok hk hs
  · exact chg13_any base X g cap sl t r vd va n w h hn ok hk
  · exact chg14_any base X g cap sl t r vd va n w h hn ok hk
end Go.Proofs.YtmbbmmnpkdfecaaGreatDoor

/- change: the inode that reach finds has a field changed, and is touched. Conditions: the execution is the call's own; the request passed its checks. -/

set_option linter.all false
namespace Go.Proofs.YtmbbmmnpkdfecaaGreatDoor
open Go.RowKit

/-- What change does to a tree: (n, code) and the tree behind. -/
def changeF (t : FT) (r : Rq) (kind perm : Int) : (Int × Int) × FT :=
  if (reachF t r.u r.p kind perm).2 ≠ 0 then ((0, (reachF t r.u r.p kind perm).2), t)
  else if (chgF (ino t (reachF t r.u r.p kind perm).1.toNat) r).1 ≠ 0 then ((0, (chgF (ino t (reachF t r.u r.p kind perm).1.toNat) r).1), t)
  else (((reachF t r.u r.p kind perm).1, 0), touchF (chI t (reachF t r.u r.p kind perm).1.toNat (fun x => (chgF x r).2)) (reachF t r.u r.p kind perm).1.toNat)
theorem reach_in {t : FT} (h1 : Ok1 (tr t)) {u : Int} {p : ByteArray} {kind perm : Int} (hc : (reachF t u p kind perm).2 = 0) : 0 ≤ (reachF t u p kind perm).1 ∧ (reachF t u p kind perm).1.toNat < t.length := by
  unfold reachF at hc ⊢
  split at hc
  · rename_i h; exact absurd hc h
  · rename_i hn
    rw [if_neg hn]
    split at hc
    · cases hc
    · rename_i hn2
      rw [if_neg hn2]
      split at hc
      · cases hc
      · rename_i hn3
        rw [if_neg hn3]
        exact exist_in h1 (by simpa using hn)
theorem chgF_bad {x : Ino} {r : Rq} (h : (chgF x r).1 ≠ 0) : (chgF x r).2 = x := by
  unfold chgF at h ⊢
  repeat' split at h
  all_goals simp_all
theorem chgF_v (x : Ino) (r : Rq) : (chgF x r).2.v = x.v := by
  unfold chgF
  repeat' split
  all_goals rfl

set_option maxRecDepth 100000 in
set_option maxHeartbeats 6400000 in
theorem change_any (base X g cap : Nat) (sl : Nat → Sl) (t : FT) (r : Rq) (vd va : Value) (kind perm : Int) (w : World) (h : XO w base X g cap sl t r vd va) (gm : GM w) (hp : r.p.size ≤ maxLen) (h1 : Ok1 (tr t))
    (hv : ∀ j, j < t.length → 0 ≤ (ino t j).v ∧ (ino t j).v ≤ 1000000) (ok : RqOk r) (hk : isChg r.k) :
    Calls Tryz.prog 68 #[.pointer (some ⟨X, 0, none⟩), .int .i64 kind, .int .i64 perm] w fun e w' =>
      e = .returned (.tuple #[.int .i64 (changeF t r kind perm).1.1, .int .i64 (changeF t r kind perm).1.2]) ∧ MutP base X r vd va (changeF t r kind perm).2 w w' := by
  have H := Lib.hid h
  have CR := Lib.hid (reach_any X g cap t r vd va kind perm w ⟨gm, hp, h.xr, h1⟩)
  have HIN := Lib.hid (fun hc => reach_in h1 (u := r.u) (p := r.p) (kind := kind) (perm := perm) hc)
  by_cases hc : (reachF t r.u r.p kind perm).2 = 0
  · obtain ⟨hn0, hn⟩ := HIN.out hc
    obtain ⟨n, hnn⟩ := Int.eq_ofNat_of_zero_le hn0
    have hn' : n < t.length := by rw [hnn] at hn; exact hn
    have CC := Lib.hid (fun (Z : World) (hZ : Below w.heap.size w Z) => changeField_any base X g cap sl t r vd va n Z (h.up hZ) hn' ok hk)
    have CT := Lib.hid (fun (Z : World) g' cap' sl' (hZ : XO Z base X g' cap' sl' (chI t n (fun x => (chgF x r).2)) r vd va) => touch_any base X g' cap' sl' _ r vd va n Z hZ (by rw [chI_len]; exact hn') (by rw [ino_chI _ hn', if_pos rfl]; simp only [chgF_v]; exact hv n hn'))
    have HE1 := Lib.hid (show (chgF (ino t n) r).1 ≠ 0 → changeF t r kind perm = ((0, (chgF (ino t n) r).1), t) from fun h9 => by
      unfold changeF; rw [if_neg (by simpa using hc), hnn, Int.toNat_natCast, if_pos h9])
    have HE2 := Lib.hid (show (chgF (ino t n) r).1 = 0 → changeF t r kind perm = (((n : Int), 0), touchF (chI t n (fun x => (chgF x r).2)) n) from fun h9 => by
      unfold changeF; rw [if_neg (by simpa using hc), hnn, Int.toNat_natCast, if_neg (by simpa using h9)])
    have HS := Lib.hid (show (chgF (ino t n) r).1 ≠ 0 → chI t n (fun x => (chgF x r).2) = t from fun h9 => chI_self t n hn' _ (chgF_bad h9))
    have x0 := h.xr.b.c 0 _ rfl
    have x1 := h.xr.b.c 1 _ rfl
    have x2 := h.xr.b.c 2 _ rfl
    have x3 := h.xr.b.c 3 _ rfl
    have x4 := h.xr.b.c 4 _ rfl
    have x5 := h.xr.b.c 5 _ rfl
    have x6 := h.xr.b.c 6 _ rfl
    have x7 := h.xr.b.c 7 _ rfl
    have x8 := h.xr.b.c 8 _ rfl
    have x9 := h.xr.b.c 9 _ rfl
    have x10 := h.xr.b.c 10 _ rfl
    have xl := h.xr.b.lt
    have nz : (n : Int) < (t.length : Int) := by omega
    have n0 : (0 : Int) ≤ (n : Int) := Int.natCast_nonneg _
    have h40 := h.len
    rw [hnn, hc] at CR
    clear h gm h1 hv ok hk hn0 hn hnn hn' hc HIN
    unfold rqV at CC
    generalize changeF t r kind perm = Q at *
    generalize chI t n (fun x => (chgF x r).2) = t2 at *
    generalize (chgF (ino t n) r).1 = cc at *
    generalize t.length = L at *
    go_enter Tryz.func68, Tryz.ntmps68
    go_wp2_with fail
    refine CR.out.mono ?_
    rintro e w1 ⟨rfl, b1⟩
    have y0 := (b1.cell (p := ⟨X, 0, none⟩) xl).trans x0
    have y1 := (b1.cell (p := ⟨X, 1, none⟩) xl).trans x1
    have y2 := (b1.cell (p := ⟨X, 2, none⟩) xl).trans x2
    have y3 := (b1.cell (p := ⟨X, 3, none⟩) xl).trans x3
    have y4 := (b1.cell (p := ⟨X, 4, none⟩) xl).trans x4
    have y5 := (b1.cell (p := ⟨X, 5, none⟩) xl).trans x5
    have y6 := (b1.cell (p := ⟨X, 6, none⟩) xl).trans x6
    have y7 := (b1.cell (p := ⟨X, 7, none⟩) xl).trans x7
    have y8 := (b1.cell (p := ⟨X, 8, none⟩) xl).trans x8
    have y9 := (b1.cell (p := ⟨X, 9, none⟩) xl).trans x9
    have y10 := (b1.cell (p := ⟨X, 10, none⟩) xl).trans x10
    have B1 := Lib.hid b1
    have Xl1 := Nat.lt_of_lt_of_le xl b1.size
    clear x0 x1 x2 x3 x4 x5 x6 x7 x8 x9 x10 b1 xl
    go_upto_region 4 with fail
    go_cut [7] from 18 to 37 (fun s7 wx => s7 = .int .i64 cc ∧ MutP base X r vd va t2 w wx)
    case first =>
      go_region_with (go_at_call 130; refine (CC.out _ B1.out.drew).mono ?_; rintro e z ⟨rfl, hz⟩)
      all_goals
        go_wp2_with fail
        go_meet
        obtain ⟨g', cap', sl', hx, hb⟩ := hz
        exact ⟨rfl, g', cap', sl', hx, (B1.out.drew.mono H.out.base.1).trans hb.1, (Typ.of_below B1.out.drew).trans hb.2⟩
    case rest =>
      obtain ⟨rfl, hM⟩ := hcut
      obtain ⟨w3, rfl⟩ : ∃ w3 : World, w3 = wc := ⟨_, rfl⟩
      by_cases hcc : cc = 0
      · subst hcc
        have hq := HE2.out rfl
        subst hq
        obtain ⟨g', cap', sl', hx, hb⟩ := hM
        have CT2 := Lib.hid (CT.out w3 g' cap' sl' hx)
        have HB := Lib.hid hb
        clear hb hx
        go_wp2_with fail
        refine CT2.out.mono ?_
        rintro e z ⟨rfl, g9, cap9, sl9, hx9, hb9⟩
        have HX9 := Lib.hid hx9
        have HB9 := Lib.hid hb9
        clear hx9 hb9
        go_wp2
        go_ret2
        exact ⟨rfl, g9, cap9, sl9, HX9.out, HB.out.1.trans HB9.out.1, HB.out.2.trans HB9.out.2⟩
      · have hq := HE1.out hcc
        have ht := HS.out hcc
        subst hq ht
        have hcc1 : (cc != 0) = true := by simpa using hcc
        have HM := Lib.hid hM
        clear hM
        go_wp2
        go_ret2
        exact ⟨rfl, HM.out⟩
  · have HQ := Lib.hid (show changeF t r kind perm = ((0, (reachF t r.u r.p kind perm).2), t) by unfold changeF; rw [if_pos hc])
    rw [HQ.out]
    clear HQ HIN
    generalize reachF t r.u r.p kind perm = U at *
    obtain ⟨u1, u2⟩ := U
    simp only at *
    have hcc1 : (u2 != 0) = true := by simpa using hc
    clear h gm h1 hv ok hk
    go_enter Tryz.func68, Tryz.ntmps68
    go_wp2_with fail
    refine CR.out.mono ?_
    rintro e w1 ⟨rfl, b1⟩
    have HM := Lib.hid (MutP.same H.out b1)
    clear b1
    go_wp2
    go_ret2
    exact ⟨rfl, HM.out⟩

end Go.Proofs.YtmbbmmnpkdfecaaGreatDoor

/- What perform, reply, Apply and Run answer, in plain words: trees, numbers, codes, replies. No program. -/

set_option linter.all false
namespace Go.Proofs.YtmbbmmnpkdfecaaGreatDoor
open Go.RowKit

/-- A reply. -/
structure St where
  i : Int
  k : Int
  o : Int
  z : Int
  l : Int
  v : Int
structure Rp where
  c : Int
  d : List UInt8
  ns : List ByteArray
  s : St
abbrev S0 : St := ⟨0, 0, 0, 0, 0, 0⟩
abbrev Rp0 : Rp := ⟨0, [], [], S0⟩
abbrev RpC (c : Int) : Rp := ⟨c, [], [], S0⟩
def perfF (t : FT) (r : Rq) : (Int × Int) × FT :=
  if r.k = 1 then mkF t r 1
  else if r.k = 2 then mkF t r 2
  else if r.k = 3 then (reachF t r.u r.p 2 1, t)
  else if r.k = 4 ∨ r.k = 5 then changeF t r 2 2
  else if r.k = 6 then (reachF t r.u r.p 1 1, t)
  else if r.k = 8 then rmF t r
  else if r.k = 9 then mvF t r
  else if r.k = 10 then linkW t r
  else if r.k = 11 ∨ r.k = 14 then changeF t r 0 8
  else if r.k = 13 then changeF t r 1 8
  else if r.k = 12 then changeF t r 0 2
  else (reachF t r.u r.p 0 0, t)
def statF (t : FT) (n : Nat) : St := ⟨(n : Int), (ino t n).k, (ino t n).o, ((ino t n).d.length : Int), (refs (tr t) n : Nat), (ino t n).v⟩
def replyF (t : FT) (r : Rq) (n : Nat) : Rp :=
  if r.k = 3 then ⟨0, ((ino t n).d.take (min (r.off.toNat + r.sz.toNat) (ino t n).d.length)).drop (min r.off.toNat (ino t n).d.length), [], S0⟩
  else if r.k = 6 then ⟨0, [], (ino t n).es.map (·.n), S0⟩
  else if r.k = 8 then Rp0
  else ⟨0, [], [], statF t n⟩
def applyF (t : FT) (r : Rq) : FT × Rp :=
  if (perfF t r).1.2 ≠ 0 then (t, RpC (perfF t r).1.2)
  else if (valT (tr (perfF t r).2)).1 ≠ 0 then (t, RpC (valT (tr (perfF t r).2)).1)
  else ((perfF t r).2, replyF (perfF t r).2 r (perfF t r).1.1.toNat)
def runF : FT → List Rq → FT × List Rp
  | t, [] => (t, [])
  | t, r :: l => ((runF (applyF t r).1 l).1, (applyF t r).2 :: (runF (applyF t r).1 l).2)
abbrev T0 : FT := [⟨1, 0, [], [], [], [], 0, 0⟩]

/-! ## The number that perform returns lies in the tree -/
def InT (R : (Int × Int) × FT) : Prop := R.1.2 = 0 → ∃ n : Nat, R.1.1 = (n : Int) ∧ n < R.2.length
theorem mkF_in (t : FT) (r : Rq) (k : Int) : InT (mkF t r k) := by
  intro h
  unfold mkF at h ⊢
  by_cases h1 : (vacantF t r.u r.p).2 ≠ 0
  · rw [if_pos h1] at h; exact absurd h h1
  · rw [if_neg h1] at h ⊢
    by_cases h2 : (ino t (vacantF t r.u r.p).1.p).es.length = 16
    · rw [if_pos h2] at h; cases h
    · rw [if_neg h2] at h ⊢
      by_cases h3 : freN t = 40
      · rw [if_pos h3] at h; cases h
      · rw [if_neg h3]
        exact ⟨_, rfl, by rw [touchF_len, addF_len]; exact (newT_len t k r.u).2.2⟩
theorem reach_inT {t : FT} (h1 : Ok1 (tr t)) (u : Int) (p : ByteArray) (kind perm : Int) : InT (reachF t u p kind perm, t) := fun h => reach_in' h1 h
theorem changeF_in {t : FT} (h1 : Ok1 (tr t)) (r : Rq) (kind perm : Int) : InT (changeF t r kind perm) := by
  intro h
  unfold changeF at h ⊢
  by_cases h2 : (reachF t r.u r.p kind perm).2 ≠ 0
  · rw [if_pos h2] at h; exact absurd h h2
  · rw [if_neg h2] at h ⊢
    obtain ⟨n, hn, hl⟩ := reach_in' h1 (u := r.u) (p := r.p) (kind := kind) (perm := perm) (by simpa using h2)
    rw [hn, Int.toNat_natCast] at h ⊢
    by_cases h3 : (chgF (ino t n) r).1 ≠ 0
    · rw [if_pos h3] at h; exact absurd h h3
    · rw [if_neg h3]
      exact ⟨n, rfl, by rw [touchF_len, chI_len]; exact hl⟩
theorem rmF_in {t : FT} (h1 : Ok1 (tr t)) (r : Rq) : InT (rmF t r) := by
  intro h
  unfold rmF at h ⊢
  by_cases h2 : (removeF t r.u r.p).2 ≠ 0
  · rw [if_pos h2] at h; exact absurd h h2
  · rw [if_neg h2] at h ⊢
    by_cases h3 : 0 < (ino t (removeF t r.u r.p).1.i.toNat).es.length
    · rw [if_pos h3] at h; cases h
    · rw [if_neg h3]
      have R := remove_at h1 (u := r.u) (p := r.p) (by simpa using h2)
      refine ⟨(removeF t r.u r.p).1.i.toNat, by have := R.i0; simp only; omega, ?_⟩
      have := R.il
      simp only
      split
      · rw [List.length_set]; unfold cutT; rw [touchF_len, takF_len]; exact this
      · rw [touchF_len]; unfold cutT; rw [touchF_len, takF_len]; exact this
theorem movT_len (t : FT) (a b : Pl) : (movT t a b).length = t.length := by unfold movT; rw [addF_len, takF_len]
theorem mvF_in {t : FT} (h1 : Ok1 (tr t)) (r : Rq) : InT (mvF t r) := by
  intro h
  unfold mvF at h ⊢
  by_cases h2 : (removeF t r.u r.p).2 ≠ 0
  · rw [if_pos h2] at h; exact absurd h h2
  · rw [if_neg h2] at h ⊢
    by_cases h3 : blwB r.p r.t = true
    · rw [if_pos h3] at h; cases h
    · rw [if_neg h3] at h ⊢
      by_cases h4 : (vacantF t r.u r.t).2 ≠ 0
      · rw [if_pos h4] at h; exact absurd h h4
      · rw [if_neg h4] at h ⊢
        by_cases h5 : (vacantF t r.u r.t).1.p ≠ (removeF t r.u r.p).1.p ∧ (ino t (vacantF t r.u r.t).1.p).es.length = 16
        · rw [if_pos h5] at h; cases h
        · rw [if_neg h5]
          have R := remove_at h1 (u := r.u) (p := r.p) (by simpa using h2)
          refine ⟨(removeF t r.u r.p).1.i.toNat, by have := R.i0; simp only; omega, ?_⟩
          have := R.il
          simp only
          split
          · rw [touchF_len, touchF_len, movT_len]; exact this
          · rw [touchF_len, movT_len]; exact this
theorem linkW_in {t : FT} (h1 : Ok1 (tr t)) (r : Rq) : InT (linkW t r) := by
  intro h
  unfold linkW at h ⊢
  by_cases h2 : (reachF t r.u r.p 2 0).2 ≠ 0
  · rw [if_pos h2] at h; exact absurd h h2
  · rw [if_neg h2] at h ⊢
    by_cases h4 : (vacantF t r.u r.t).2 ≠ 0
    · rw [if_pos h4] at h; exact absurd h h4
    · rw [if_neg h4] at h ⊢
      by_cases h5 : (ino t (vacantF t r.u r.t).1.p).es.length = 16
      · rw [if_pos h5] at h; cases h
      · rw [if_neg h5]
        obtain ⟨n, hn, hl⟩ := reach_in' h1 (u := r.u) (p := r.p) (kind := 2) (perm := 0) (by simpa using h2)
        exact ⟨n, hn, by simp only; rw [touchF_len, touchF_len, addF_len]; exact hl⟩
theorem perf_in {t : FT} (h1 : Ok1 (tr t)) (r : Rq) : InT (perfF t r) := by
  unfold perfF
  by_cases h : r.k = 1
  · rw [if_pos h]; exact mkF_in _ _ _
  rw [if_neg h]; clear h
  by_cases h : r.k = 2
  · rw [if_pos h]; exact mkF_in _ _ _
  rw [if_neg h]; clear h
  by_cases h : r.k = 3
  · rw [if_pos h]; exact reach_inT h1 _ _ _ _
  rw [if_neg h]; clear h
  by_cases h : r.k = 4 ∨ r.k = 5
  · rw [if_pos h]; exact changeF_in h1 _ _ _
  rw [if_neg h]; clear h
  by_cases h : r.k = 6
  · rw [if_pos h]; exact reach_inT h1 _ _ _ _
  rw [if_neg h]; clear h
  by_cases h : r.k = 8
  · rw [if_pos h]; exact rmF_in h1 _
  rw [if_neg h]; clear h
  by_cases h : r.k = 9
  · rw [if_pos h]; exact mvF_in h1 _
  rw [if_neg h]; clear h
  by_cases h : r.k = 10
  · rw [if_pos h]; exact linkW_in h1 _
  rw [if_neg h]; clear h
  by_cases h : r.k = 11 ∨ r.k = 14
  · rw [if_pos h]; exact changeF_in h1 _ _ _
  rw [if_neg h]; clear h
  by_cases h : r.k = 13
  · rw [if_pos h]; exact changeF_in h1 _ _ _
  rw [if_neg h]; clear h
  by_cases h : r.k = 12
  · rw [if_pos h]; exact changeF_in h1 _ _ _
  rw [if_neg h]; exact reach_inT h1 _ _ _ _
theorem apply_valid {t : FT} (h : (valT (tr t)).1 = 0) (r : Rq) : (valT (tr (applyF t r).1)).1 = 0 := by
  unfold applyF
  by_cases h1 : (perfF t r).1.2 ≠ 0
  · rw [if_pos h1]; exact h
  · rw [if_neg h1]
    by_cases h2 : (valT (tr (perfF t r).2)).1 ≠ 0
    · rw [if_pos h2]; exact h
    · rw [if_neg h2]; simpa using h2
theorem run_valid : ∀ (l : List Rq) {t : FT}, (valT (tr t)).1 = 0 → (valT (tr (runF t l).1)).1 = 0
  | [], _, h => h
  | r :: l, _, h => run_valid l (apply_valid h r)
theorem run_len : ∀ (l : List Rq) (t : FT), (runF t l).2.length = l.length
  | [], _ => rfl
  | r :: l, t => by unfold runF; simp only [List.length_cons]; rw [run_len l]
theorem run_append : ∀ (l m : List Rq) (t : FT), runF t (l ++ m) = ((runF (runF t l).1 m).1, (runF t l).2 ++ (runF (runF t l).1 m).2)
  | [], _, _ => rfl
  | r :: l, m, t => by
    rw [List.cons_append, runF, run_append l m]
    simp [runF]
theorem run_snoc (l : List Rq) (r : Rq) (t : FT) : runF t (l ++ [r]) = ((applyF (runF t l).1 r).1, (runF t l).2 ++ [(applyF (runF t l).1 r).2]) := by
  rw [run_append]; rfl
theorem t0_valid : (valT (tr T0)).1 = 0 := by decide +kernel

end Go.Proofs.YtmbbmmnpkdfecaaGreatDoor

/- What a tree and a request that passed their checks are like. No program. -/

set_option linter.all false
namespace Go.Proofs.YtmbbmmnpkdfecaaGreatDoor
open Go.RowKit

theorem acl_len {xs : List Ent} (h : (valF xs).1 = 0) : xs.length ≤ 6 := by
  unfold valF at h
  split at h
  · cases h
  · omega
theorem atr_len {xs : List Attr} (h : (valA xs).1 = 0) : xs.length ≤ 6 := by
  unfold valA at h
  split at h
  · cases h
  · omega
theorem fits_of {w : World} {B c : Nat} {a : Option Addr} {t : FT} (h : FNods w B a c t) (hv : (valT (tr t)).1 = 0) : ∀ j, j < t.length → Fit (ino t j) := by
  intro j hj
  have hs := (vd_of hv).toSv.ok j (by simpa using hj)
  rw [nod_tr] at hs
  obtain ⟨b, o, _, _, hx⟩ := h.at_ (by omega)
  obtain ⟨s, _, h2, _⟩ := hx j hj
  exact ⟨h2.k, h2.o, h2.q, h2.v, h2.es.fits, h2.ac.fits_, h2.xs.fits, by have := hs.len; exact Nat.le_trans this (by omega), by have := hs.dl; exact Nat.le_trans this (by omega), by have := acl_len hs.ac; exact Nat.le_trans this (by omega), by have := atr_len hs.xs; exact Nat.le_trans this (by omega)⟩
theorem verOk_of {t : FT} (hv : (valT (tr t)).1 = 0) : VerOk t := fun j hj => by
  have hs := (vd_of hv).toSv.ok j (by simpa using hj)
  rw [nod_tr] at hs
  exact ⟨hs.v0, hs.v1⟩
theorem ok1_of {t : FT} (hv : (valT (tr t)).1 = 0) : Ok1 (tr t) := (vd_of hv).toSv.ok1
theorem len_of {t : FT} (hv : (valT (tr t)).1 = 0) : 0 < t.length ∧ t.length ≤ 40 := by
  have := ok1_of hv
  exact ⟨by simpa using this.ne, by simpa using this.le⟩
/-- What a request that passed its checks is like. -/
structure RqG (r : Rq) : Prop where
  k : knownB r.k = true
  u : usrB r.u = true
  b : blankB (wo r) = true
  p : pathB r.p = true
  t : twoB r.k = true → pathB r.t = true
  off : offB r.off = true
  sz : szB r.k r.sz = true
  d : r.d.length ≤ 200
  ac : (valF r.ac).1 = 0
  at_ : r.k = 12 → codeA r.a = 0
theorem rqG_of {r : Rq} (h : rqC r = 0) : RqG r := by
  unfold rqC at h
  by_cases h1 : knownB r.k = false
  · rw [if_pos h1] at h; cases h
  rw [if_neg h1] at h
  by_cases h2 : usrB r.u = false
  · rw [if_pos h2] at h; cases h
  rw [if_neg h2] at h
  by_cases h3 : blankB (wo r) = false
  · rw [if_pos h3] at h; cases h
  rw [if_neg h3] at h
  by_cases h4 : pathB r.p = false
  · rw [if_pos h4] at h; cases h
  rw [if_neg h4] at h
  by_cases h5 : twoB r.k = true ∧ pathB r.t = false
  · rw [if_pos h5] at h; cases h
  rw [if_neg h5] at h
  by_cases h6 : offB r.off = false
  · rw [if_pos h6] at h; cases h
  rw [if_neg h6] at h
  by_cases h7 : szB r.k r.sz = false
  · rw [if_pos h7] at h; cases h
  rw [if_neg h7] at h
  by_cases h8 : 200 < r.d.length
  · rw [if_pos h8] at h; cases h
  rw [if_neg h8] at h
  by_cases h9 : (valF r.ac).1 ≠ 0
  · rw [if_pos h9] at h; exact absurd h h9
  rw [if_neg h9] at h
  refine ⟨by simpa using h1, by simpa using h2, by simpa using h3, by simpa using h4, fun ht => ?_, by simpa using h6, by simpa using h7, by omega, by simpa using h9, fun hk => ?_⟩
  · cases hq : pathB r.t with
    | true => rfl
    | false => exact absurd ⟨ht, hq⟩ h5
  · rw [if_pos hk] at h; exact h
theorem RqG.ok {r : Rq} (h : RqG r) : RqOk r := by
  have h1 : 0 ≤ r.off ∧ r.off ≤ 1000000 := by have := h.off; unfold offB at this; simpa using this
  have h2 : 0 ≤ r.sz ∧ r.sz ≤ maxSz r.k := by have := h.sz; unfold szB at this; simpa using this
  refine ⟨h1.1, h1.2, h2.1, fun hk => ?_, by have := h.d; omega, by have := acl_len h.ac; omega⟩
  have hb := h.b
  unfold blankB wo at hb
  rw [if_neg (by omega), if_neg (by omega), if_pos (by omega)] at hb
  simp only [decide_eq_true_eq] at hb
  exact hb.2.2.2.1

end Go.Proofs.YtmbbmmnpkdfecaaGreatDoor
