/- Package memfs and what it calls, at this seat's translation.
   Condition: as each theorem states; this text: MfLink, MfBlank, MfPlace, MfFree, MfGrow, MfRemove. -/
import Derived.Test.YtmbbmmnpkdfecaaGreatDoorMb15
import Derived.Test.YtmbbmmnpkdfecaaGreatDoorMb16

set_option linter.all false

/- link: a file gets one more name. Conditions: the execution is the call's own; the tree passes the first checks; versions lie in their range. -/

set_option linter.all false
namespace Go.Proofs.YtmbbmmnpkdfecaaGreatDoor
open Go.RowKit

/-- What link does to a tree. -/
def linkW (t : FT) (r : Rq) : (Int × Int) × FT :=
  if (reachF t r.u r.p 2 0).2 ≠ 0 then ((0, (reachF t r.u r.p 2 0).2), t)
  else if (vacantF t r.u r.t).2 ≠ 0 then ((0, (vacantF t r.u r.t).2), t)
  else if (ino t (vacantF t r.u r.t).1.p).es.length = 16 then ((0, 2), t)
  else (((reachF t r.u r.p 2 0).1, 0), touchF (touchF (addF t (vacantF t r.u r.t).1.p ⟨(vacantF t r.u r.t).1.n, (reachF t r.u r.p 2 0).1⟩) (vacantF t r.u r.t).1.p) (reachF t r.u r.p 2 0).1.toNat)
def VerOk (t : FT) : Prop := ∀ j, j < t.length → 0 ≤ (ino t j).v ∧ (ino t j).v ≤ 1000000
theorem VerOk.ch {t : FT} (h : VerOk t) {n : Nat} (hn : n < t.length) (f : Ino → Ino) (hf : 0 ≤ (f (ino t n)).v ∧ (f (ino t n)).v ≤ 1000000) : VerOk (chI t n f) := fun j hj => by
  rw [chI_len] at hj
  rw [ino_chI _ hn]
  split
  · exact hf
  · exact h j hj
theorem VerOk.add {t : FT} (h : VerOk t) {n : Nat} (hn : n < t.length) (e : DE) : VerOk (addF t n e) := h.ch hn _ (h n hn)
theorem VerOk.touch {t : FT} (h : VerOk t) {n : Nat} (hn : n < t.length) : VerOk (touchF t n) := h.ch hn _ (by
  have := h n hn
  unfold tchI
  simp only
  omega)
theorem addF_len (t : FT) (n : Nat) (e : DE) : (addF t n e).length = t.length := chI_len _ _ _
theorem touchF_len (t : FT) (n : Nat) : (touchF t n).length = t.length := chI_len _ _ _
theorem reach_in' {t : FT} (h1 : Ok1 (tr t)) {u : Int} {p : ByteArray} {kind perm : Int} (hc : (reachF t u p kind perm).2 = 0) : ∃ n : Nat, (reachF t u p kind perm).1 = (n : Int) ∧ n < t.length := by
  have h : 0 ≤ (reachF t u p kind perm).1 ∧ (reachF t u p kind perm).1.toNat < t.length := by
    unfold reachF at hc ⊢
    split at hc
    · rename_i h; exact absurd hc h
    · rename_i hn
      rw [if_neg hn]
      split at hc
      · cases hc
      · rename_i hn2
        rw [if_neg hn2]
        split at hc
        · cases hc
        · rename_i hn3
          rw [if_neg hn3]
          exact exist_in h1 (by simpa using hn)
  exact ⟨(reachF t u p kind perm).1.toNat, by omega, h.2⟩

set_option maxRecDepth 100000 in
set_option maxHeartbeats 6400000 in
theorem link_any (base X g cap : Nat) (sl : Nat → Sl) (t : FT) (r : Rq) (vd va : Value) (w : World) (h : XO w base X g cap sl t r vd va) (gm : GM w) (h1 : Ok1 (tr t)) (hv : VerOk t) :
    Calls Tryz.prog 71 #[.pointer (some ⟨X, 0, none⟩)] w fun e w' =>
      e = .returned (.tuple #[.int .i64 (linkW t r).1.1, .int .i64 (linkW t r).1.2]) ∧ MutP base X r vd va (linkW t r).2 w w' := by
  have H := Lib.hid h
  have hp := h.rq.p
  have ht := h.rq.t
  have CR := Lib.hid (reach_any X g cap t r vd va 2 0 w ⟨gm, hp, h.xr, h1⟩)
  by_cases hc : (reachF t r.u r.p 2 0).2 = 0
  · obtain ⟨n, hnn, hn⟩ := reach_in' h1 hc
    have hpar := vacant_par h1 r.u r.t
    have hnm := Nat.le_trans (vacant_name t r.u r.t) ht
    have hni : i64 (n : Int) := by have := h.len; unfold i64; omega
    have CV := Lib.hid (fun (Z : World) (hZ : Below w.heap.size w Z) => mustBeVacant_any X g cap t r vd va r.t Z ⟨gm.below hZ, ht, (h.up hZ).xr, h1⟩)
    have CF := Lib.hid (fun (Z : World) (hZ : Below w.heap.size w Z) => isFull_any X g cap t r vd va (vacantF t r.u r.t).1.p Z (h.up hZ).xr hpar)
    have CA := Lib.hid (fun (Z : World) (hZ : Below w.heap.size w Z) => addEntry_any base X g cap sl t r vd va (vacantF t r.u r.t).1 (n : Int) Z (h.up hZ) hpar (ok_srt h1 _) (by have := ok_len h1 (vacantF t r.u r.t).1.p; omega) ⟨hnm, hni⟩)
    have hv2 := hv.add hpar ⟨(vacantF t r.u r.t).1.n, (n : Int)⟩
    have hv3 := hv2.touch (n := (vacantF t r.u r.t).1.p) (by rw [addF_len]; exact hpar)
    have CT1 := Lib.hid (fun (Z : World) g' cap' sl' (hZ : XO Z base X g' cap' sl' (addF t (vacantF t r.u r.t).1.p ⟨(vacantF t r.u r.t).1.n, (n : Int)⟩) r vd va) => touch_any base X g' cap' sl' _ r vd va (vacantF t r.u r.t).1.p Z hZ (by rw [addF_len]; exact hpar) (hv2 _ (by rw [addF_len]; exact hpar)))
    have CT2 := Lib.hid (fun (Z : World) g' cap' sl' (hZ : XO Z base X g' cap' sl' (touchF (addF t (vacantF t r.u r.t).1.p ⟨(vacantF t r.u r.t).1.n, (n : Int)⟩) (vacantF t r.u r.t).1.p) r vd va) => touch_any base X g' cap' sl' _ r vd va n Z hZ (by rw [touchF_len, addF_len]; exact hn) (hv3 _ (by rw [touchF_len, addF_len]; exact hn)))
    have HQ := Lib.hid (show linkW t r = if (vacantF t r.u r.t).2 ≠ 0 then ((0, (vacantF t r.u r.t).2), t) else if (ino t (vacantF t r.u r.t).1.p).es.length = 16 then ((0, 2), t) else (((n : Int), 0), touchF (touchF (addF t (vacantF t r.u r.t).1.p ⟨(vacantF t r.u r.t).1.n, (n : Int)⟩) (vacantF t r.u r.t).1.p) n) by
      unfold linkW; rw [if_neg (by simpa using hc), hnn, Int.toNat_natCast])
    have x4 := h.xr.b.c 4 _ rfl
    have xl := h.xr.b.lt
    rw [hnn, hc] at CR
    generalize linkW t r = Q at *
    generalize touchF (touchF (addF t (vacantF t r.u r.t).1.p ⟨(vacantF t r.u r.t).1.n, (n : Int)⟩) (vacantF t r.u r.t).1.p) n = t4 at *
    generalize touchF (addF t (vacantF t r.u r.t).1.p ⟨(vacantF t r.u r.t).1.n, (n : Int)⟩) (vacantF t r.u r.t).1.p = t3 at *
    generalize addF t (vacantF t r.u r.t).1.p ⟨(vacantF t r.u r.t).1.n, (n : Int)⟩ = t2 at *
    clear h gm h1 hv hc hnn hn hpar hnm hni hv2 hv3 hp ht
    generalize (vacantF t r.u r.t).2 = vc at *
    generalize (vacantF t r.u r.t).1 = a at *
    obtain ⟨ap, an, ai⟩ := a
    unfold plV at *
    simp only at *
    by_cases hvc : vc = 0
    · subst hvc
      by_cases hfl : (ino t ap).es.length = 16
      · have hq : Q = ((0, 2), t) := by rw [HQ.out, if_neg (by simp), if_pos hfl]
        subst hq
        have hd : decide ((ino t ap).es.length = 16) = true := by simpa using hfl
        rw [hd] at CF
        clear hd hfl HQ CA CT1 CT2
        go_enter Tryz.func71, Tryz.ntmps71
        go_wp2_with fail
        refine CR.out.mono ?_
        rintro e w1 ⟨rfl, b1⟩
        have y4 := (b1.cell (p := ⟨X, 4, none⟩) xl).trans x4
        have B1 := Lib.hid b1
        clear b1
        go_wp2_with fail
        refine (CV.out _ B1.out).mono ?_
        rintro e w2 ⟨rfl, b2⟩
        have B2 := Lib.hid (B1.out.trans (b2.mono B1.out.size))
        have B3 := Lib.hid (B2.out.alloc B2.out.size (.cells #[.int .i64 (ap : Int), .string an, .int .i64 ai] 160))
        clear b2
        go_wp2_with fail
        refine (CF.out _ B3.out).mono ?_
        rintro e w4 ⟨rfl, rfl⟩
        go_wp2
        go_ret2
        exact ⟨rfl, g, cap, sl, H.out.up B3.out, B3.out.mono H.out.base.1, Typ.of_below B3.out⟩
      · have hq : Q = (((n : Int), 0), t4) := by rw [HQ.out, if_neg (by simp), if_neg hfl]
        subst hq
        have hd : decide ((ino t ap).es.length = 16) = false := by simpa using hfl
        rw [hd] at CF
        clear hd hfl HQ
        go_enter Tryz.func71, Tryz.ntmps71
        go_wp2_with fail
        refine CR.out.mono ?_
        rintro e w1 ⟨rfl, b1⟩
        have y4 := (b1.cell (p := ⟨X, 4, none⟩) xl).trans x4
        have B1 := Lib.hid b1
        clear b1
        go_wp2_with fail
        refine (CV.out _ B1.out).mono ?_
        rintro e w2 ⟨rfl, b2⟩
        have B2 := Lib.hid (B1.out.trans (b2.mono B1.out.size))
        have B3 := Lib.hid (B2.out.alloc B2.out.size (.cells #[.int .i64 (ap : Int), .string an, .int .i64 ai] 160))
        clear b2
        go_wp2_with fail
        refine (CF.out _ B3.out).mono ?_
        rintro e w4 ⟨rfl, rfl⟩
        go_wp2_with fail
        refine (CA.out _ B3.out).mono ?_
        rintro e w5 ⟨rfl, g5, cap5, sl5, hx5, hb5⟩
        have P3 := Lib.hid (show PB (w2.alloc (.cells #[.int .i64 (ap : Int), .string an, .int .i64 ai] 160)) w2.heap.size ⟨ap, an, ai⟩ from PB.new w2 ⟨ap, an, ai⟩ _)
        have hblk : (w2.alloc (.cells #[.int .i64 (ap : Int), .string an, .int .i64 ai] 160)).heap[w2.heap.size]? = some (Obj.cells #[.int .i64 (ap : Int), .string an, .int .i64 ai] 160 (0, 0)) := heap_alloc_last' w2 _
        have z0 : w5.cell? ⟨w2.heap.size, 0, none⟩ = some (.int .i64 (ap : Int)) := (World.cell?_of_block (a := ⟨w2.heap.size, 0, none⟩) (hb5.2 _ _ _ _ hblk (by decide) (by decide) (by decide))).trans P3.out.c0
        have HX5 := Lib.hid hx5
        have HB5 := Lib.hid hb5
        clear hx5 hb5 hblk
        go_wp2_with fail
        refine (CT1.out _ _ _ _ HX5.out).mono ?_
        rintro e w6 ⟨rfl, g6, cap6, sl6, hx6, hb6⟩
        have HX6 := Lib.hid hx6
        have HB6 := Lib.hid hb6
        clear hx6 hb6
        go_wp2_with fail
        refine (CT2.out _ _ _ _ HX6.out).mono ?_
        rintro e w7 ⟨rfl, g7, cap7, sl7, hx7, hb7⟩
        have HX7 := Lib.hid hx7
        have HB7 := Lib.hid hb7
        clear hx7 hb7
        go_wp2
        go_ret2
        exact ⟨rfl, g7, cap7, sl7, HX7.out, (((B3.out.mono H.out.base.1).trans HB5.out.1).trans HB6.out.1).trans HB7.out.1, (((Typ.of_below B3.out).trans HB5.out.2).trans HB6.out.2).trans HB7.out.2⟩
    · have hq : Q = ((0, vc), t) := by rw [HQ.out, if_pos hvc]
      subst hq
      have hcc1 : (vc != 0) = true := by simpa using hvc
      clear HQ CA CT1 CT2 CF hvc
      go_enter Tryz.func71, Tryz.ntmps71
      go_wp2_with fail
      refine CR.out.mono ?_
      rintro e w1 ⟨rfl, b1⟩
      have y4 := (b1.cell (p := ⟨X, 4, none⟩) xl).trans x4
      have B1 := Lib.hid b1
      clear b1
      go_wp2_with fail
      refine (CV.out _ B1.out).mono ?_
      rintro e w2 ⟨rfl, b2⟩
      have B2 := Lib.hid (B1.out.trans (b2.mono B1.out.size))
      have B3 := Lib.hid (B2.out.alloc B2.out.size (.cells #[.int .i64 (ap : Int), .string an, .int .i64 ai] 160))
      clear b2
      go_wp2
      go_ret2
      exact ⟨rfl, g, cap, sl, H.out.up B3.out, B3.out.mono H.out.base.1, Typ.of_below B3.out⟩
  · have HQ := Lib.hid (show linkW t r = ((0, (reachF t r.u r.p 2 0).2), t) by unfold linkW; rw [if_pos hc])
    rw [HQ.out]
    clear HQ
    generalize reachF t r.u r.p 2 0 = U at *
    obtain ⟨u1, u2⟩ := U
    simp only at *
    have hcc1 : (u2 != 0) = true := by simpa using hc
    clear h gm h1 hv
    go_enter Tryz.func71, Tryz.ntmps71
    go_wp2_with fail
    refine CR.out.mono ?_
    rintro e w1 ⟨rfl, b1⟩
    have HM := Lib.hid (show MutP base X r vd va t w w1 from ⟨g, cap, sl, H.out.up b1, b1.mono H.out.base.1, Typ.of_below b1⟩)
    clear b1
    go_wp2
    go_ret2
    exact ⟨rfl, HM.out⟩

end Go.Proofs.YtmbbmmnpkdfecaaGreatDoor

/- A whole inode is stored as a free one. Conditions: the execution is the call's own. -/

set_option linter.all false
namespace Go.Proofs.YtmbbmmnpkdfecaaGreatDoor
open Go.RowKit

theorem XO.putS {w : World} {base X g cap : Nat} {sl : Nat → Sl} {t : FT} {r : Rq} {vd va : Value} {j : Nat} {x : Ino} (h : XO w base X g cap sl (t.set j x) r vd va) (hj : j < t.length) (i : Nat) (hi : i < 8) (u : Value) (x' : Ino) (s' : Sl)
    (hc : inoL x' s' = (inoL x (sl j)).set i u) (hr : Rws w base s' x') (hf : Fit x') (he : ∀ b, s'.e.ownBlock = some b → (sl j).e.ownBlock = some b) :
    XO (w.setCell ⟨g, j * 8 + i, none⟩ u) base X g cap (upd sl j s') (t.set j x') r vd va ∧ Typ w (w.setCell ⟨g, j * 8 + i, none⟩ u) ∧ Below base w (w.setCell ⟨g, j * 8 + i, none⟩ u) := by
  have hj' : j < (t.set j x).length := by rw [List.length_set]; exact hj
  have hx : ino (t.set j x) j = x := by rw [ino_set hj, if_pos rfl]
  have := h.put hj' hi u x' s' (by rw [hx]; exact hc) hr hf (fun k hk hkj b hb e => h.ot.ne k j hk hj' hkj b hb (he b e))
  rw [List.set_set] at this
  exact ⟨this, h.putT _ _, h.putB _ _⟩
theorem upd_at (sl : Nat → Sl) (j : Nat) (s : Sl) : upd sl j s j = s := by unfold upd; rw [if_pos rfl]
theorem Rws.at_ {w : World} {base X g cap : Nat} {sl : Nat → Sl} {t : FT} {r : Rq} {vd va : Value} {j : Nat} {x : Ino} (h : XO w base X g cap sl (t.set j x) r vd va) (hj : j < t.length) : Rws w base (sl j) x ∧ Fit x := by
  have hj' : j < (t.set j x).length := by rw [List.length_set]; exact hj
  have hx : ino (t.set j x) j = x := by rw [ino_set hj, if_pos rfl]
  have h1 := h.ot.r j hj'
  have h2 := h.ot.fit j hj'
  rw [hx] at h1 h2
  exact ⟨h1, h2⟩
theorem set_self' {t : FT} {j : Nat} (hj : j < t.length) : t.set j (ino t j) = t := by rw [ino_at hj]; exact List.set_getElem_self hj
def nilS : Value := .slice none 0 0

/-- The eight cells of a free inode. -/
theorem XO.blank {w : World} {base X g cap : Nat} {sl : Nat → Sl} {t : FT} {r : Rq} {vd va : Value} (h : XO w base X g cap sl t r vd va) {j : Nat} (hj : j < t.length) (K O : Int) (hK : i64 K) (hO : i64 O) :
    MutP base X r vd va (t.set j { I0 with k := K, o := O }) w ((((((((w.setCell ⟨g, j * 8 + 0, none⟩ (.int .i64 K)).setCell ⟨g, j * 8 + 1, none⟩ (.int .i64 O)).setCell ⟨g, j * 8 + 2, none⟩ nilS).setCell ⟨g, j * 8 + 3, none⟩ nilS).setCell ⟨g, j * 8 + 4, none⟩ nilS).setCell ⟨g, j * 8 + 5, none⟩ nilS).setCell ⟨g, j * 8 + 6, none⟩ (.int .i64 0)).setCell ⟨g, j * 8 + 7, none⟩ (.int .i64 0)) := by
  have z : i64 0 := i64_zero
  rw [← set_self' hj] at h
  have q0 := Rws.at_ h hj
  generalize ino t j = x at h q0
  obtain ⟨h0, T0, B0⟩ := h.putS hj 0 (by omega) (.int .i64 K) { x with k := K } (sl j) rfl ⟨q0.1.e, q0.1.d, q0.1.a, q0.1.x⟩ ⟨hK, q0.2.o, q0.2.q, q0.2.v, q0.2.es, q0.2.ac, q0.2.xs, q0.2.le, q0.2.ld, q0.2.la, q0.2.lx⟩ (fun _ e => e)
  have q1 := Rws.at_ h0 hj
  obtain ⟨h1, T1, B1⟩ := h0.putS hj 1 (by omega) (.int .i64 O) { x with k := K, o := O } (sl j) (by rw [upd_at]; rfl) ⟨by have := q1.1.e; rwa [upd_at] at this, by have := q1.1.d; rwa [upd_at] at this, by have := q1.1.a; rwa [upd_at] at this, by have := q1.1.x; rwa [upd_at] at this⟩ ⟨q1.2.k, hO, q1.2.q, q1.2.v, q1.2.es, q1.2.ac, q1.2.xs, q1.2.le, q1.2.ld, q1.2.la, q1.2.lx⟩ (fun _ e => by rw [upd_at]; exact e)
  have q2 := Rws.at_ h1 hj
  rw [upd_at] at q2
  obtain ⟨h2, T2, B2⟩ := h1.putS hj 2 (by omega) nilS { x with k := K, o := O, es := [] } { sl j with e := nilS } (by rw [upd_at]; rfl) ⟨World.ownsRow_nil _ _ _ _, q2.1.d, q2.1.a, q2.1.x⟩ ⟨q2.2.k, q2.2.o, q2.2.q, q2.2.v, (by intro e he; cases he), q2.2.ac, q2.2.xs, Nat.zero_le _, q2.2.ld, q2.2.la, q2.2.lx⟩ (fun _ e => by cases e)
  have q3 := Rws.at_ h2 hj
  rw [upd_at] at q3
  obtain ⟨h3, T3, B3⟩ := h2.putS hj 3 (by omega) nilS { x with k := K, o := O, es := [], d := [] } { sl j with e := nilS, d := nilS } (by rw [upd_at]; rfl) ⟨q3.1.e, World.ownsRow_nil _ _ _ _, q3.1.a, q3.1.x⟩ ⟨q3.2.k, q3.2.o, q3.2.q, q3.2.v, q3.2.es, q3.2.ac, q3.2.xs, q3.2.le, Nat.zero_le _, q3.2.la, q3.2.lx⟩ (fun _ e => by rw [upd_at]; exact e)
  have q4 := Rws.at_ h3 hj
  rw [upd_at] at q4
  obtain ⟨h4, T4, B4⟩ := h3.putS hj 4 (by omega) nilS { x with k := K, o := O, es := [], d := [], ac := [] } { sl j with e := nilS, d := nilS, a := nilS } (by rw [upd_at]; rfl) ⟨q4.1.e, q4.1.d, World.ownsRow_nil _ _ _ _, q4.1.x⟩ ⟨q4.2.k, q4.2.o, q4.2.q, q4.2.v, q4.2.es, (by intro e he; cases he), q4.2.xs, q4.2.le, q4.2.ld, Nat.zero_le _, q4.2.lx⟩ (fun _ e => by rw [upd_at]; exact e)
  have q5 := Rws.at_ h4 hj
  rw [upd_at] at q5
  obtain ⟨h5, T5, B5⟩ := h4.putS hj 5 (by omega) nilS { x with k := K, o := O, es := [], d := [], ac := [], xs := [] } ⟨nilS, nilS, nilS, nilS⟩ (by rw [upd_at]; rfl) ⟨q5.1.e, q5.1.d, q5.1.a, World.ownsRow_nil _ _ _ _⟩ ⟨q5.2.k, q5.2.o, q5.2.q, q5.2.v, q5.2.es, q5.2.ac, (by intro e he; cases he), q5.2.le, q5.2.ld, q5.2.la, Nat.zero_le _⟩ (fun _ e => by rw [upd_at]; exact e)
  have q6 := Rws.at_ h5 hj
  rw [upd_at] at q6
  obtain ⟨h6, T6, B6⟩ := h5.putS hj 6 (by omega) (.int .i64 0) { x with k := K, o := O, es := [], d := [], ac := [], xs := [], q := 0 } ⟨nilS, nilS, nilS, nilS⟩ (by rw [upd_at]; rfl) ⟨q6.1.e, q6.1.d, q6.1.a, q6.1.x⟩ ⟨q6.2.k, q6.2.o, z, q6.2.v, q6.2.es, q6.2.ac, q6.2.xs, q6.2.le, q6.2.ld, q6.2.la, q6.2.lx⟩ (fun _ e => by rw [upd_at]; exact e)
  have q7 := Rws.at_ h6 hj
  rw [upd_at] at q7
  obtain ⟨h7, T7, B7⟩ := h6.putS hj 7 (by omega) (.int .i64 0) { I0 with k := K, o := O } ⟨nilS, nilS, nilS, nilS⟩ (by rw [upd_at]; rfl) ⟨q7.1.e, q7.1.d, q7.1.a, q7.1.x⟩ ⟨q7.2.k, q7.2.o, z, z, q7.2.es, q7.2.ac, q7.2.xs, q7.2.le, q7.2.ld, q7.2.la, q7.2.lx⟩ (fun _ e => by rw [upd_at]; exact e)
  exact ⟨g, cap, _, h7, ((((((B0.trans B1).trans B2).trans B3).trans B4).trans B5).trans B6).trans B7, ((((((T0.trans T1).trans T2).trans T3).trans T4).trans T5).trans T6).trans T7⟩

end Go.Proofs.YtmbbmmnpkdfecaaGreatDoor

/- Plain facts on places: a place that is found is its parent's entry; what create, remove and rename do to a tree. No program. -/

set_option linter.all false
namespace Go.Proofs.YtmbbmmnpkdfecaaGreatDoor
open Go.RowKit

/-! ## A place is its parent's entry -/
theorem resP_look (t : FT) (u : Int) : ∀ (xs : List ByteArray) (a : Pl), (a.n = ByteArray.empty ∨ a.i = lookE (ino t a.p).es a.n) → (resP t u xs a).1.n = ByteArray.empty ∨ (resP t u xs a).1.i = lookE (ino t (resP t u xs a).1.p).es (resP t u xs a).1.n
  | [], a, h => by rw [resP]; exact h
  | c :: cs, a, _ => by
    rw [resP]
    split
    · exact .inl rfl
    · split
      · exact .inl rfl
      · split
        · exact .inl rfl
        · exact resP_look t u cs _ (.inr rfl)
theorem resolve_look (t : FT) (u : Int) (p : ByteArray) : (resolveF t u p).1.n = ByteArray.empty ∨ (resolveF t u p).1.i = lookE (ino t (resolveF t u p).1.p).es (resolveF t u p).1.n :=
  resP_look t u _ P0 (.inl rfl)
theorem entry_ok {t : FT} {u : Int} {p : ByteArray} (h : (entryF t u p).2 = 0) : entryF t u p = resolveF t u p ∧ (resolveF t u p).2 = 0 ∧ (resolveF t u p).1.n ≠ ByteArray.empty ∧ alw t (resolveF t u p).1.p u 2 = true := by
  unfold entryF at h ⊢
  by_cases h1 : (resolveF t u p).2 ≠ 0
  · rw [if_pos h1] at h; exact absurd h h1
  · rw [if_neg h1] at h ⊢
    by_cases h2 : (resolveF t u p).1.n = ByteArray.empty
    · rw [if_pos h2] at h; cases h
    · rw [if_neg h2] at h ⊢
      by_cases h3 : alw t (resolveF t u p).1.p u 2 = false
      · rw [if_pos h3] at h; cases h
      · rw [if_neg h3]
        exact ⟨rfl, by simpa using h1, h2, by simpa using h3⟩
theorem entry_look {t : FT} {u : Int} {p : ByteArray} (h : (entryF t u p).2 = 0) : (entryF t u p).1.i = lookE (ino t (entryF t u p).1.p).es (entryF t u p).1.n := by
  obtain ⟨e, _, h2, _⟩ := entry_ok h
  rw [e]
  exact (resolve_look t u p).resolve_left h2
theorem unless_ok {R : Pl × Int} (h : (unlessF R).2 = 0) : unlessF R = R ∧ R.2 = 0 ∧ R.1.i ≠ -1 := by
  unfold unlessF at h ⊢
  by_cases h1 : R.2 = 0 ∧ R.1.i = -1
  · rw [if_pos h1] at h; cases h
  · rw [if_neg h1] at h ⊢
    exact ⟨rfl, h, fun e => h1 ⟨h, e⟩⟩
theorem unless_fst (R : Pl × Int) : (unlessF R).1 = R.1 := by unfold unlessF; split <;> rfl
theorem vacant_fst (t : FT) (u : Int) (p : ByteArray) : (vacantF t u p).1 = (entryF t u p).1 := by unfold vacantF; split <;> rfl
/-- A place that is removable. -/
structure Rem (t : FT) (a : Pl) : Prop where
  par : a.p < t.length
  fnd : fndE (ino t a.p).es a.n = true
  i : a.i = ((ino t a.p).es.getD (lowE (ino t a.p).es a.n) D0).i
  i0 : 0 < a.i
  il : a.i.toNat < t.length
theorem Rem.low {t : FT} {a : Pl} (h : Rem t a) : lowE (ino t a.p).es a.n < (ino t a.p).es.length := (fndE_iff.1 h.fnd).1
theorem remove_at {t : FT} (h1 : Ok1 (tr t)) {u : Int} {p : ByteArray} (h : (removeF t u p).2 = 0) : Rem t (removeF t u p).1 := by
  obtain ⟨e, h2, h3⟩ := unless_ok h
  have hf : (removeF t u p).1 = (entryF t u p).1 := unless_fst _
  rw [hf]
  have hl := entry_look h2
  have hr := look_range h1 (entryF t u p).1.p (entryF t u p).1.n
  rw [← hl] at hr
  have hr := hr.resolve_left h3
  have hfn : fndE (ino t (entryF t u p).1.p).es (entryF t u p).1.n = true := by
    cases hq : fndE (ino t (entryF t u p).1.p).es (entryF t u p).1.n with
    | true => rfl
    | false =>
      unfold lookE at hl
      rw [if_neg (by rw [hq]; simp)] at hl
      exact absurd hl h3
  refine ⟨entry_par h1 u p, hfn, ?_, hr.1, hr.2⟩
  rw [hl]
  unfold lookE
  rw [if_pos hfn]
/-- A place that is vacant. -/
structure Vac (t : FT) (a : Pl) : Prop where
  par : a.p < t.length
  fnd : fndE (ino t a.p).es a.n = false
theorem vacant_at {t : FT} (h1 : Ok1 (tr t)) {u : Int} {p : ByteArray} (h : (vacantF t u p).2 = 0) : Vac t (vacantF t u p).1 ∧ (entryF t u p).2 = 0 := by
  have h0 : (entryF t u p).2 = 0 ∧ (entryF t u p).1.i = -1 := by
    unfold vacantF at h
    by_cases h2 : (entryF t u p).2 = 0 ∧ (entryF t u p).1.i ≠ -1
    · rw [if_pos h2] at h; cases h
    · rw [if_neg h2] at h
      exact ⟨h, Classical.byContradiction fun hh => h2 ⟨h, hh⟩⟩
  rw [vacant_fst]
  refine ⟨⟨entry_par h1 u p, ?_⟩, h0.1⟩
  cases hq : fndE (ino t (entryF t u p).1.p).es (entryF t u p).1.n with
  | false => rfl
  | true =>
    have hl := entry_look h0.1
    have hk := kid_found h1 (n := (entryF t u p).1.p) (x := (entryF t u p).1.n) (by rw [kids_tr]; exact hq)
    rw [kids_tr, tr_len] at hk
    unfold lookE at hl
    rw [if_pos hq, h0.2] at hl
    have := hk.2.1
    omega

/-! ## What create, remove and rename do -/
/-- The first free inode, or the number behind the last. -/
def freN (t : FT) : Nat := t.findIdx fun x => decide (x.k = 0)
theorem freN_le (t : FT) : freN t ≤ t.length := List.findIdx_le_length
theorem freN_at {t : FT} (h : freN t < t.length) : (ino t (freN t)).k = 0 := by
  have h1 := List.findIdx_getElem (xs := t) (p := fun x : Ino => decide (x.k = 0)) (w := h)
  rw [ino_at h]
  exact of_decide_eq_true h1
theorem freN_not {t : FT} {j : Nat} (h : j < freN t) : (ino t j).k ≠ 0 := by
  have hl : j < t.length := Nat.lt_of_lt_of_le h (freN_le t)
  have := List.not_of_lt_findIdx (xs := t) (p := fun x : Ino => decide (x.k = 0)) h
  rw [ino_at hl]
  simpa using this
/-- The tree with a new inode. -/
def newT (t : FT) (k u : Int) : FT := if freN t < t.length then t.set (freN t) { I0 with k := k, o := u } else t ++ [{ I0 with k := k, o := u }]
theorem newT_len (t : FT) (k u : Int) : t.length ≤ (newT t k u).length ∧ (newT t k u).length ≤ t.length + 1 ∧ freN t < (newT t k u).length := by
  have := freN_le t
  unfold newT
  split
  · rw [List.length_set]; omega
  · simp only [List.length_append, List.length_singleton]; omega
theorem ino_newT (t : FT) (k u : Int) (m : Nat) : ino (newT t k u) m = if m = freN t then { I0 with k := k, o := u } else ino t m := by
  unfold newT
  split
  · rename_i h; exact ino_set h m
  · rename_i h
    have e : freN t = t.length := by have := freN_le t; omega
    rw [e]
    unfold ino
    rw [List.getD_eq_getElem?_getD, List.getD_eq_getElem?_getD]
    by_cases h1 : m = t.length
    · rw [if_pos h1, h1, List.getElem?_append_right (Nat.le_refl _)]; simp
    · rw [if_neg h1]
      by_cases h2 : m < t.length
      · rw [List.getElem?_append_left h2]
      · rw [List.getElem?_eq_none (by simp; omega), List.getElem?_eq_none (by omega)]
def mkF (t : FT) (r : Rq) (k : Int) : (Int × Int) × FT :=
  if (vacantF t r.u r.p).2 ≠ 0 then ((0, (vacantF t r.u r.p).2), t)
  else if (ino t (vacantF t r.u r.p).1.p).es.length = 16 then ((0, 2), t)
  else if freN t = 40 then ((0, 14), t)
  else (((freN t : Int), 0), touchF (addF (newT t k r.u) (vacantF t r.u r.p).1.p ⟨(vacantF t r.u r.p).1.n, (freN t : Int)⟩) (vacantF t r.u r.p).1.p)
def cutT (t : FT) (a : Pl) : FT := touchF (takF t a.p a.n) a.p
def rmF (t : FT) (r : Rq) : (Int × Int) × FT :=
  if (removeF t r.u r.p).2 ≠ 0 then ((0, (removeF t r.u r.p).2), t)
  else if 0 < (ino t (removeF t r.u r.p).1.i.toNat).es.length then ((0, 15), t)
  else (((removeF t r.u r.p).1.i, 0), if refs (tr (cutT t (removeF t r.u r.p).1)) (removeF t r.u r.p).1.i.toNat = 0 then (cutT t (removeF t r.u r.p).1).set (removeF t r.u r.p).1.i.toNat I0 else touchF (cutT t (removeF t r.u r.p).1) (removeF t r.u r.p).1.i.toNat)
def blwB (a b : ByteArray) : Bool := contB a b && decide (a ≠ b)
/-- An entry moves from a to b. -/
def movT (t : FT) (a b : Pl) : FT := addF (takF t a.p a.n) b.p ⟨b.n, a.i⟩
def mvF (t : FT) (r : Rq) : (Int × Int) × FT :=
  if (removeF t r.u r.p).2 ≠ 0 then ((0, (removeF t r.u r.p).2), t)
  else if blwB r.p r.t = true then ((0, 15), t)
  else if (vacantF t r.u r.t).2 ≠ 0 then ((0, (vacantF t r.u r.t).2), t)
  else if (vacantF t r.u r.t).1.p ≠ (removeF t r.u r.p).1.p ∧ (ino t (vacantF t r.u r.t).1.p).es.length = 16 then ((0, 2), t)
  else (((removeF t r.u r.p).1.i, 0), if (vacantF t r.u r.t).1.p ≠ (removeF t r.u r.p).1.p then touchF (touchF (movT t (removeF t r.u r.p).1 (vacantF t r.u r.t).1) (removeF t r.u r.p).1.p) (vacantF t r.u r.t).1.p else touchF (movT t (removeF t r.u r.p).1 (vacantF t r.u r.t).1) (removeF t r.u r.p).1.p)
theorem takF_len (t : FT) (n : Nat) (x : ByteArray) : (takF t n x).length = t.length := chI_len _ _ _
theorem VerOk.tak {t : FT} (h : VerOk t) {n : Nat} (hn : n < t.length) (x : ByteArray) : VerOk (takF t n x) := h.ch hn _ (h n hn)
theorem VerOk.newT {t : FT} (h : VerOk t) (k u : Int) : VerOk (newT t k u) := fun j hj => by
  rw [ino_newT]
  split
  · exact ⟨by simp, by simp⟩
  · rename_i hne
    refine h j ?_
    have := newT_len t k u
    unfold Go.Proofs.YtmbbmmnpkdfecaaGreatDoor.newT at hj
    split at hj
    · rwa [List.length_set] at hj
    · rename_i h9
      have := freN_le t
      simp only [List.length_append, List.length_singleton] at hj
      omega
theorem VerOk.set0 {t : FT} (h : VerOk t) {n : Nat} (hn : n < t.length) : VerOk (t.set n I0) := fun j hj => by
  rw [List.length_set] at hj
  rw [ino_set hn]
  split
  · exact ⟨by simp, by simp⟩
  · exact h j hj

end Go.Proofs.YtmbbmmnpkdfecaaGreatDoor

/- The search for a free inode; isBelow. Conditions: the execution lies in memory as it reads; paths have a machine's length. -/

set_option linter.all false
namespace Go.Proofs.YtmbbmmnpkdfecaaGreatDoor
open Go.RowKit

set_option maxHeartbeats 1000000 in
theorem create1_any (k o q v : Int) (ve vd va vx : Value) (w : World) :
    Calls Tryz.prog 125 #[.agg #[.int .i64 k, .int .i64 o, ve, vd, va, vx, .int .i64 q, .int .i64 v]] w fun e w' => e = .returned (.bool (decide (k = 0))) ∧ Below w.heap.size w w' := by
  have HB := Lib.hid ((Below.refl w.heap.size w).alloc (Nat.le_refl _) (.cells #[.int .i64 k, .int .i64 o, ve, vd, va, vx, .int .i64 q, .int .i64 v] 63))
  by_cases hk : k = 0
  · subst hk
    go_enter Tryz.func125, Tryz.ntmps125
    go_wp2
    go_ret
    exact ⟨rfl, HB.out⟩
  · have h1 : (k == 0) = false := by simpa using hk
    have HK := Lib.hid (show decide (k = 0) = false by simpa using hk)
    rw [HK.out]
    clear HK hk
    go_enter Tryz.func125, Tryz.ntmps125
    go_wp2
    go_ret
    exact ⟨rfl, HB.out⟩
theorem toList_ne {a b : ByteArray} (h : a ≠ b) : (a.toList == b.toList) = false := by
  rw [beq_eq_false_iff_ne]
  intro e
  rw [ByteArray.toList_eq, ByteArray.toList_eq] at e
  exact h (ByteArray.ext (Array.toList_inj.1 e))
theorem eg_create1 : ∀ args w, (callFunc 125 args).run Tryz.prog w = .ok (.enter 125 args) w := enters_of Tryz.func125 (by kernel_rfl) rfl
/-- The number of the first free inode, or -1. -/
def freI (t : FT) : Int := if freN t < t.length then (freN t : Int) else -1
theorem freI_hit {t : FT} {k : Nat} (hk : k < t.length) (hb : decide ((ino t k).k = 0) = true) (hA : ∀ j, j < k → decide ((ino t j).k = 0) = false) : (k : Int) = freI t := by
  have hf : freN t = k := by
    unfold freN
    rw [List.findIdx_eq hk]
    refine ⟨by rw [← ino_at hk]; exact hb, fun j hj => ?_⟩
    have := hA j hj
    rw [ino_at (by omega)] at this
    exact this
  unfold freI
  rw [hf, if_pos hk]
theorem freI_miss {t : FT} (hA : ∀ j, j < t.length → decide ((ino t j).k = 0) = false) : -1 = freI t := by
  unfold freI
  rw [if_neg]
  intro h
  have h1 := hA _ h
  rw [freN_at h] at h1
  simp at h1

set_option maxRecDepth 100000 in
set_option maxHeartbeats 1600000 in
theorem idxFree_any (X g cap : Nat) (t : FT) (r : Rq) (vd va : Value) (w : World) (h : XR w X g cap t r vd va) :
    Calls Tryz.prog 124 #[.slice (some ⟨g, 0, none⟩) t.length cap, .func (.func 125) #[] #[]] w fun e w' => e = .returned (.int .i64 (freI t)) ∧ Below w.heap.size w w' := by
  have H := Lib.hid h
  have eg := eg_create1
  have h40 := h.len
  clear h
  go_enter Tryz.func124, Tryz.ntmps124
  go_wp2
  go_loopg [5, 8] t.length (fun gg _ s8 wr => ∃ kk : Nat, kk ≤ t.length ∧ t.length - kk ≤ gg ∧ s8 = .int .i64 kk ∧ Aside (Below w.heap.size w wr) ∧ Aside (∀ j, j < kk → decide ((ino t j).k = 0) = false))
  case atStart => exact ⟨0, Nat.zero_le _, by omega, rfl, Below.refl _ _, fun j hj => absurd hj (Nat.not_lt_zero _)⟩
  case round =>
    obtain ⟨kk, hkk, hg, rfl, BW, A⟩ := hrel
    by_cases hlt : kk < t.length
    · have hltz : (kk : Int) < (t.length : Int) := by omega
      have hi0 : (0 : Int) ≤ (kk : Int) := Int.natCast_nonneg _
      obtain ⟨hgl, ⟨se, sd, sa, sx⟩, hc, _, _⟩ := (H.out.up BW.out).one hlt
      have c0 := hc.c0
      have c1 := hc.c1
      have c2 := hc.c2
      have c3 := hc.c3
      have c4 := hc.c4
      have c5 := hc.c5
      have c6 := hc.c6
      have c7 := hc.c7
      have hcall := create1_any (ino t kk).nod.k (ino t kk).nod.o (ino t kk).nod.q (ino t kk).nod.v se sd sa sx wr
      have HN : Hid ((ino t kk).k = (ino t kk).nod.k) := Lib.hid rfl
      clear hc
      generalize (ino t kk).nod.k = k at *
      generalize (ino t kk).nod.o = o at *
      generalize (ino t kk).nod.q = q at *
      generalize (ino t kk).nod.v = v at *
      simp only at c2 c3 c4 c5
      cases hz : decide (k = 0) with
      | true =>
        rw [hz] at hcall
        have Z : Aside (decide (k = 0) = true) := hz
        clear hz
        go_wp2_with (go_at_fn 125; refine hcall.mono ?_; rintro e w' ⟨rfl, hb'⟩)
        go_ret
        exact ⟨ret_int (freI_hit hlt (by rw [HN.out]; exact Z.out) A.out), BW.out.trans (hb'.mono BW.out.size)⟩
      | false =>
        rw [hz] at hcall
        have Z : Aside (decide (k = 0) = false) := hz
        clear hz
        go_wp2_with (go_at_fn 125; refine hcall.mono ?_; rintro e w' ⟨rfl, hb'⟩)
        go_roundg (t.length - (kk + 1))
        case measure => omega
        case rel =>
          refine ⟨kk + 1, by omega, by omega, by go_num, BW.out.trans (hb'.mono BW.out.size), (show Aside _ from fun j hj => ?_)⟩
          by_cases e : j = kk
          · subst e
            rw [HN.out]; exact Z.out
          · exact A.out j (by omega)
    · have hltz : ¬ (kk : Int) < (t.length : Int) := by omega
      have e : kk = t.length := by omega
      have E : Aside (kk = t.length) := e
      clear e
      go_wp2
      go_ret
      exact ⟨ret_int (freI_miss fun j hj => A.out j (by have := E.out; omega)), BW.out⟩

set_option maxHeartbeats 1600000 in
theorem isBelow_any (a b : ByteArray) (w : World) (gm : GM w) (ha : a.size ≤ maxLen) (hb : b.size ≤ maxLen) :
    Calls Tryz.prog 133 #[.string a, .string b] w fun e w' => e = .returned (.bool (blwB a b)) ∧ Below w.heap.size w w' := by
  have C := Lib.hid (contains_any a b w gm ha hb)
  unfold contV at C
  have HB := Lib.hid (show blwB a b = (contB a b && decide (a ≠ b)) from rfl)
  generalize blwB a b = q at *
  generalize (contF a b).1 = f1 at *
  generalize (contF a b).2 = f2 at *
  generalize contB a b = k at *
  clear gm ha hb
  cases k with
  | true =>
    by_cases hab : a = b
    · subst hab
      go_enter Tryz.func133, Tryz.ntmps133
      go_wp2_with fail
      refine C.out.mono ?_
      rintro e w1 ⟨rfl, b1⟩
      have B2 := Lib.hid (b1.alloc b1.size (.cells #[.int .i64 f1, .int .i64 f2] 37))
      clear b1
      go_wp2
      go_ret
      exact ⟨ret_bool (by rw [HB.out]; simp), B2.out⟩
    · have hne := toList_ne hab
      go_enter Tryz.func133, Tryz.ntmps133
      go_wp2_with fail
      refine C.out.mono ?_
      rintro e w1 ⟨rfl, b1⟩
      have B2 := Lib.hid (b1.alloc b1.size (.cells #[.int .i64 f1, .int .i64 f2] 37))
      clear b1
      go_wp2
      go_ret
      exact ⟨ret_bool (by rw [HB.out]; simp [hab, hne]), B2.out⟩
  | false =>
    go_enter Tryz.func133, Tryz.ntmps133
    go_wp2_with fail
    refine C.out.mono ?_
    rintro e w1 ⟨rfl, b1⟩
    have B2 := Lib.hid (b1.alloc b1.size (.cells #[.int .i64 f1, .int .i64 f2] 37))
    clear b1
    go_wp2
    go_ret
    exact ⟨ret_bool (by rw [HB.out]; rfl), B2.out⟩

end Go.Proofs.YtmbbmmnpkdfecaaGreatDoor

/- The row of inodes grows by a free one; the search for a free inode. Conditions: the execution is the call's own. -/

set_option linter.all false
namespace Go.Proofs.YtmbbmmnpkdfecaaGreatDoor
open Go.RowKit

def nilSl : Sl := ⟨nilS, nilS, nilS, nilS⟩
theorem rws_nil (w : World) (base : Nat) (k o : Int) : Rws w base nilSl { I0 with k := k, o := o } :=
  ⟨World.ownsRow_nil _ _ _ _, World.ownsRow_nil _ _ _ _, World.ownsRow_nil _ _ _ _, World.ownsRow_nil _ _ _ _⟩
theorem fit_nil : Fit I0 := ⟨i64_zero, i64_zero, i64_zero, i64_zero, (by intro e he; cases he), (by intro e he; cases he), (by intro e he; cases he), Nat.zero_le _, Nat.zero_le _, Nat.zero_le _, Nat.zero_le _⟩
theorem ino_app {t : FT} (x : Ino) (j : Nat) : ino (t ++ [x]) j = if j = t.length then x else ino t j := by
  unfold ino
  rw [List.getD_eq_getElem?_getD, List.getD_eq_getElem?_getD]
  by_cases h1 : j = t.length
  · rw [if_pos h1, h1, List.getElem?_append_right (Nat.le_refl _)]; simp
  · rw [if_neg h1]
    by_cases h2 : j < t.length
    · rw [List.getElem?_append_left h2]
    · rw [List.getElem?_eq_none (by simp; omega), List.getElem?_eq_none (by omega)]
/-- The row of inodes has grown by a free one, and its slice is stored. -/
theorem XO.grow {w w1 : World} {base X g cap : Nat} {sl : Nat → Sl} {t : FT} {r : Rq} {vd va : Value} (h : XO w base X g cap sl t r vd va) (hl : t.length < 40) {cs : List Value} (hcs : w.ownsRow base 63 8 (.slice (some ⟨g, 0, none⟩) t.length cap) t.length cs) {v' : Value}
    (ho : w1.ownsRow base 63 8 v' (t.length + 1) (cs ++ inoL I0 nilSl)) (hg : w.grownBy w1 (some g)) :
    ∃ g' cap', v' = .slice (some ⟨g', 0, none⟩) (t.length + 1) cap' ∧ w1.cell? ⟨X, 0, none⟩ = some (.slice (some ⟨g, 0, none⟩) t.length cap) ∧ w1.frozen? ⟨X, 0, none⟩ = false ∧
      XO (w1.setCell ⟨X, 0, none⟩ v') base X g' cap' (upd sl t.length nilSl) (t ++ [I0]) r vd va ∧ Below base w (w1.setCell ⟨X, 0, none⟩ v') ∧ Typ w (w1.setCell ⟨X, 0, none⟩ v') := by
  have hb := h.base
  obtain ⟨g', cap', rfl, hg'⟩ : ∃ g' cap', v' = .slice (some ⟨g', 0, none⟩) (t.length + 1) cap' ∧ base ≤ g' := by
    rcases ho.2 with ⟨_, h0⟩ | ⟨g1, c1, cur, hv, hb1, _⟩
    · cases h0
    · exact ⟨g1, c1, hv, hb1⟩
  have hX1 : w1.ownsRow base 78 11 (.slice (some ⟨X, 0, none⟩) 1 1) 1 (xL t.length g cap r vd va) := own_kept h.x hg (fun q e => by
    injection e with e
    subst e
    exact own_apart hcs h.x (by decide) rfl)
  obtain ⟨hX2, hgX⟩ := hX1.stored 0 (.slice (some ⟨g', 0, none⟩) (t.length + 1) cap')
  have hcl : cs.length = t.length * 8 := hcs.1
  have hgX' : g' ≠ X := own_apart ho hX1 (by decide) (g := g') rfl |> fun hne e => hne (by rw [e]; rfl)
  have hkeep : ∀ {e : TypeId} {s n : Nat} {u : Value} {xs : List Value}, e ≠ 63 → e ≠ 78 → w.ownsRow base e s u n xs → (w1.setCell ⟨X, 0, none⟩ (.slice (some ⟨g', 0, none⟩) (t.length + 1) cap')).ownsRow base e s u n xs := fun h1 h2 hu =>
    own_kept (own_kept hu hg (fun q e => by injection e with e; subst e; exact own_apart hcs hu (fun e => h1 e.symm) rfl)) hgX (fun q e => by
      injection e with e
      subst e
      exact own_apart hX1 (own_kept hu hg (fun q e => by injection e with e; subst e; exact own_apart hcs hu (fun e => h1 e.symm) rfl)) (fun e => h2 e.symm) rfl)
  have hlen : (t ++ [I0]).length = t.length + 1 := by simp
  have ho2 : (w1.setCell ⟨X, 0, none⟩ (.slice (some ⟨g', 0, none⟩) (t.length + 1) cap')).ownsRow base 63 8 (.slice (some ⟨g', 0, none⟩) (t.length + 1) cap') (t.length + 1) (cs ++ inoL I0 nilSl) := own_kept ho hgX (fun q e => by
    injection e with e
    subst e
    intro e
    injection e with e
    exact hgX' e)
  refine ⟨g', cap', rfl, by rw [hX1.cellAt 0 (by decide)]; rfl, hX1.frozenAt 0, ⟨⟨⟨_, by rw [hlen]; exact ho2⟩, fun j hj i u hu => ?_, fun j hj => ?_, fun a b ha hb2 hab q hq => ?_, fun j hj => ?_, by rw [hlen]; omega⟩, ?_, ?_, by rw [hlen]; omega⟩, ?_, ?_⟩
  · rw [hlen] at hj
    rw [ino_app] at hu
    unfold upd at hu
    have hi : i < 8 := by
      have := (List.getElem?_eq_some_iff.1 hu).1
      simpa [inoL] using this
    rw [ho2.cellAt (j * 8 + i) (by omega)]
    by_cases e : j = t.length
    · rw [if_pos e] at hu
      simp only [if_pos e] at hu
      rw [List.getElem?_append_right (by omega), show j * 8 + i - cs.length = i by omega]
      exact hu
    · rw [if_neg e, if_neg e] at hu
      rw [List.getElem?_append_left (by omega), ← hcs.cellAt (j * 8 + i) (by omega)]
      exact h.ot.c j (by omega) i u hu
  · rw [hlen] at hj
    rw [ino_app]
    unfold upd
    by_cases e : j = t.length
    · rw [if_pos e, if_pos e]; exact rws_nil _ _ 0 0
    · rw [if_neg e, if_neg e]
      have hr := h.ot.r j (by omega)
      exact ⟨hkeep (by decide) (by decide) hr.e, hkeep (by decide) (by decide) hr.d, hkeep (by decide) (by decide) hr.a, hkeep (by decide) (by decide) hr.x⟩
  · rw [hlen] at ha hb2
    unfold upd at hq ⊢
    by_cases e1 : a = t.length
    · rw [if_pos e1] at hq; cases hq
    · rw [if_neg e1] at hq
      by_cases e2 : b = t.length
      · rw [if_pos e2]; intro e; cases e
      · rw [if_neg e2]; exact h.ot.ne a b (by omega) (by omega) hab q hq
  · rw [hlen] at hj
    rw [ino_app]
    by_cases e : j = t.length
    · rw [if_pos e]; exact fit_nil
    · rw [if_neg e]; exact h.ot.fit j (by omega)
  · rw [hlen]; exact hX2
  · refine h.rq.keep (fun b o hB => ?_)
    rw [World.cell?_setCell_other w1 _ _ _ (fun e => by have := congrArg Addr.block e; simp at this; omega)]
    exact hg.cell_far ⟨b, o, none⟩ (Nat.lt_of_lt_of_le hB hb.1) (fun e => by injection e with e; simp only at e; omega)
  · exact Below.setCell (p := ⟨_, 0, none⟩) ⟨hg.os, hg.tape, hg.output, hg.size, fun k hk => hg.block k (Nat.lt_of_lt_of_le hk hb.1) (fun e => by injection e with e; omega)⟩ hb.2.2.2.1 _
  · refine (Typ.of_grown (T := 63) hg (fun q e => by injection e with e; subst e; exact own_typ hcs rfl) (.inl rfl)).trans ?_
    intro k x ty fz hk a1 a2 a3
    refine hgX.block k (own_lt hk) (fun e => ?_)
    injection e with e
    subst e
    obtain ⟨c, hc⟩ := own_typ hX1 rfl
    rw [hc] at hk
    injection hk with hk
    injection hk with _ hk _
    exact a3 hk.symm

end Go.Proofs.YtmbbmmnpkdfecaaGreatDoor

/- remove: a name goes, and its inode with the last name. Conditions: the execution is the call's own; the tree passes the first checks; versions lie in their range. -/

set_option linter.all false
namespace Go.Proofs.YtmbbmmnpkdfecaaGreatDoor
open Go.RowKit

theorem cutT_len (t : FT) (a : Pl) : (cutT t a).length = t.length := by unfold cutT; rw [touchF_len, takF_len]
theorem VerOk.cut {t : FT} (h : VerOk t) {a : Pl} (hp : a.p < t.length) : VerOk (cutT t a) := (h.tak hp _).touch (by rw [takF_len]; exact hp)

/-- A block that holds a place, by its type. -/
def PlB (w : World) (A : Nat) (a : Pl) : Prop := w.heap[A]? = some (Obj.cells #[.int .i64 (a.p : Int), .string a.n, .int .i64 a.i] 160 (0, 0))
theorem PlB.new (w : World) (a : Pl) : PlB (w.alloc (.cells #[.int .i64 (a.p : Int), .string a.n, .int .i64 a.i] 160)) w.heap.size a := heap_alloc_last' w _
theorem PlB.typ {w w' : World} {A : Nat} {a : Pl} (h : PlB w A a) (k : Typ w w') : PlB w' A a := (k _ _ _ _ h (by decide) (by decide) (by decide)).trans h
theorem PlB.up {w w' : World} {A : Nat} {a : Pl} (h : PlB w A a) (k : Below w.heap.size w w') : PlB w' A a := h.typ (Typ.of_below k)
theorem PlB.pb {w : World} {A : Nat} {a : Pl} (h : PlB w A a) : PB w A a := by
  have hf : ∀ j, w.frozen? ⟨A, j, none⟩ = false := fun j => by
    unfold World.frozen?
    simp [show w.heap[A]? = _ from h]
  exact ⟨own_lt h, by rw [cell_row h]; rfl, by rw [cell_row h]; rfl, by rw [cell_row h]; rfl, hf 0, hf 1, hf 2⟩
theorem XO.apart {w : World} {base X g cap : Nat} {sl : Nat → Sl} {t : FT} {r : Rq} {vd va : Value} (h : XO w base X g cap sl t r vd va) {A : Nat} {a : Pl} (hA : PlB w A a) : A ≠ g ∧ A ≠ X := by
  obtain ⟨cs, ho⟩ := h.ot.own
  constructor
  · intro e
    obtain ⟨c, hc⟩ := own_typ ho (q := g) rfl
    rw [← e, show w.heap[A]? = _ from hA] at hc
    injection hc with hc
    injection hc with _ hc _
    revert hc; decide
  · intro e
    obtain ⟨c, hc⟩ := own_typ h.x (q := X) rfl
    rw [← e, show w.heap[A]? = _ from hA] at hc
    injection hc with hc
    injection hc with _ hc _
    revert hc; decide

theorem MutP.drew {base X : Nat} {r : Rq} {vd va : Value} {t' : FT} {w w' : World} (h : MutP base X r vd va t' w w') : MutP base X r vd va t' w w'.drew := by
  obtain ⟨g, cap, sl, h1, h2, h3⟩ := h
  exact ⟨g, cap, sl, h1.up (Below.refl _ _).drew, h2.drew, h3.trans (Typ.of_below (Below.refl _ _).drew)⟩
theorem MutP.after {base X : Nat} {r : Rq} {vd va : Value} {t' : FT} {w w1 w2 : World} (h : MutP base X r vd va t' w1 w2) (hb : Below base w w1) (ht : Typ w w1) : MutP base X r vd va t' w w2 := by
  obtain ⟨g, cap, sl, h1, h2, h3⟩ := h
  exact ⟨g, cap, sl, h1, hb.trans h2, ht.trans h3⟩

set_option maxRecDepth 100000 in
set_option maxHeartbeats 6400000 in
theorem remove_any (base X g cap : Nat) (sl : Nat → Sl) (t : FT) (r : Rq) (vd va : Value) (w : World) (h : XO w base X g cap sl t r vd va) (gm : GM w) (h1 : Ok1 (tr t)) (hv : VerOk t) :
    Calls Tryz.prog 69 #[.pointer (some ⟨X, 0, none⟩)] w fun e w' =>
      e = .returned (.tuple #[.int .i64 (rmF t r).1.1, .int .i64 (rmF t r).1.2]) ∧ MutP base X r vd va (rmF t r).2 w w' := by
  have H := Lib.hid h
  have hp := h.rq.p
  have CR := Lib.hid (mustBeRemovable_any X g cap t r vd va r.p w ⟨gm, hp, h.xr, h1⟩)
  have x3 := h.xr.b.c 3 _ rfl
  have xl := h.xr.b.lt
  by_cases hc : (removeF t r.u r.p).2 = 0
  · have R := remove_at h1 hc
    have HQ := Lib.hid (show rmF t r = if 0 < (ino t (removeF t r.u r.p).1.i.toNat).es.length then ((0, 15), t) else (((removeF t r.u r.p).1.i, 0), if refs (tr (cutT t (removeF t r.u r.p).1)) (removeF t r.u r.p).1.i.toNat = 0 then (cutT t (removeF t r.u r.p).1).set (removeF t r.u r.p).1.i.toNat I0 else touchF (cutT t (removeF t r.u r.p).1) (removeF t r.u r.p).1.i.toNat) by
      unfold rmF; rw [if_neg (by simpa using hc)])
    have hs := ok_srt h1 (removeF t r.u r.p).1.p
    rw [hc] at CR
    generalize rmF t r = Q at *
    clear hc
    generalize (removeF t r.u r.p).1 = a at *
    have hi0 := R.i0
    have hil := R.il
    obtain ⟨m, hm⟩ := Int.eq_ofNat_of_zero_le (Int.le_of_lt hi0)
    rw [hm, Int.toNat_natCast] at hil HQ
    have x0 := h.xr.b.c 0 _ rfl
    obtain ⟨hgl, ⟨se, sd, sa, sx⟩, hcn, hsn, _⟩ := h.xr.one hil
    obtain ⟨ea, ec, rfl, _⟩ := hsn.es
    have c2 : w.cell? ⟨g, m * 8 + 2, none⟩ = some (.slice ea (ino t m).es.length ec) := hcn.c2
    have nz : (m : Int) < (t.length : Int) := by omega
    have n0 : (0 : Int) ≤ (m : Int) := Int.natCast_nonneg _
    have h40 := h.len
    have CE := Lib.hid (fun (Z : World) (hZ : Below w.heap.size w Z) => removeEntry_any base X g cap sl t r vd va a Z (h.up hZ) R.par hs R.low)
    have CT1 := Lib.hid (fun (Z : World) g' cap' sl' (hZ : XO Z base X g' cap' sl' (takF t a.p a.n) r vd va) => touch_any base X g' cap' sl' _ r vd va a.p Z hZ (by rw [takF_len]; exact R.par) (hv.tak R.par a.n _ (by rw [takF_len]; exact R.par)))
    have CL := Lib.hid (fun (Z : World) g' cap' sl' (hZ : XO Z base X g' cap' sl' (cutT t a) r vd va) => links_any X g' cap' _ r vd va m Z hZ.xr)
    have CT2 := Lib.hid (fun (Z : World) g' cap' sl' (hZ : XO Z base X g' cap' sl' (cutT t a) r vd va) => touch_any base X g' cap' sl' _ r vd va m Z hZ (by rw [cutT_len]; exact hil) (hv.cut R.par _ (by rw [cutT_len]; exact hil)))
    have CB := Lib.hid (fun (Z : World) g' cap' sl' (hZ : XO Z base X g' cap' sl' (cutT t a) r vd va) => hZ.blank (j := m) (by rw [cutT_len]; exact hil) 0 0 i64_zero i64_zero)
    have hTT : touchF (takF t a.p a.n) a.p = cutT t a := rfl
    rw [hTT] at CT1
    have hcl := cutT_len t a
    clear h gm h1 hv hcn hsn R hs hp hi0 hil hTT
    obtain ⟨ap, an, ai⟩ := a
    simp only at hm
    subst hm
    generalize cutT t ⟨ap, an, (m : Int)⟩ = t2 at *
    unfold plV at *
    simp only at *
    by_cases hb : 0 < (ino t m).es.length
    · have hq : Q = ((0, 15), t) := by rw [HQ.out, if_pos hb]
      subst hq
      have hbz : (0 : Int) < ((ino t m).es.length : Int) := by omega
      clear HQ CE CT1 CL CT2 CB hb
      generalize (ino t m).es.length = L2 at *
      generalize t.length = L at *
      go_enter Tryz.func69, Tryz.ntmps69
      go_wp2_with fail
      refine CR.out.mono ?_
      rintro e w1 ⟨rfl, b1⟩
      have B1 := Lib.hid b1
      have B2 := Lib.hid (B1.out.alloc B1.out.size (.cells #[.int .i64 (ap : Int), .string an, .int .i64 (m : Int)] 160))
      have y0 := (B2.out.cell (p := ⟨X, 0, none⟩) xl).trans x0
      have yc := (B2.out.cell (p := ⟨g, m * 8 + 2, none⟩) hgl).trans c2
      have P2 := PB.new w1 ⟨ap, an, (m : Int)⟩ 160
      obtain ⟨pl, p0, p1, p2, pf0, pf1, pf2⟩ := P2
      simp only at p0 p1 p2
      clear b1
      go_upto_region 4 with fail
      generalize w1.alloc (.cells #[.int .i64 (ap : Int), .string an, .int .i64 (m : Int)] 160) = w2 at *
      generalize w1.heap.size = A at *
      go_quiet (fail)
      go_wp2
      go_ret2
      exact ⟨rfl, g, cap, sl, H.out.up (below_drewN B2.out _), (below_drewN B2.out _).mono H.out.base.1, Typ.of_below (below_drewN B2.out _)⟩
    · have hb0 : (ino t m).es.length = 0 := by omega
      rw [hb0] at c2
      have HQ2 := Lib.hid (show Q = (((m : Int), 0), if refs (tr t2) m = 0 then t2.set m I0 else touchF t2 m) by rw [HQ.out, if_neg hb])
      clear HQ hb hb0
      generalize t.length = L at *
      go_enter Tryz.func69, Tryz.ntmps69
      go_wp2_with fail
      refine CR.out.mono ?_
      rintro e w1 ⟨rfl, b1⟩
      have B1 := Lib.hid b1
      have B2 := Lib.hid (B1.out.alloc B1.out.size (.cells #[.int .i64 (ap : Int), .string an, .int .i64 (m : Int)] 160))
      have y0 := (B2.out.cell (p := ⟨X, 0, none⟩) xl).trans x0
      have yc := (B2.out.cell (p := ⟨g, m * 8 + 2, none⟩) hgl).trans c2
      have HK2 := Lib.hid (PlB.new w1 ⟨ap, an, (m : Int)⟩)
      obtain ⟨pl, p0, p1, p2, pf0, pf1, pf2⟩ := HK2.out.pb
      simp only at p0 p1 p2
      clear b1
      go_upto_region 4 with fail
      generalize w1.alloc (.cells #[.int .i64 (ap : Int), .string an, .int .i64 (m : Int)] 160) = w2 at *
      generalize w1.heap.size = A at *
      go_quiet (fail)
      go_wp2_with fail
      refine (CE.out _ (below_drewN B2.out _)).mono ?_
      rintro e w5 ⟨rfl, g5, cap5, sl5, hx5, hb5⟩
      have HB5 := Lib.hid (show Below base w w5 ∧ Typ w w5 from ⟨((below_drewN B2.out _).mono H.out.base.1).trans hb5.1, (Typ.of_below (below_drewN B2.out _)).trans hb5.2⟩)
      have HX5 := Lib.hid hx5
      have HK5 := Lib.hid (PlB.typ (w := w2) HK2.out hb5.2)
      obtain ⟨zl, z0, z1, z2, _, _, _⟩ := HK5.out.pb
      simp only at z0 z1 z2
      clear hb5 hx5 p0 p1 p2 pf0 pf1 pf2
      go_wp2_with fail
      refine (CT1.out _ _ _ _ HX5.out).mono ?_
      rintro e w6 ⟨rfl, g6, cap6, sl6, hx6, hb6⟩
      have HB6 := Lib.hid (show Below base w w6 ∧ Typ w w6 from ⟨HB5.out.1.trans hb6.1, HB5.out.2.trans hb6.2⟩)
      have HX6 := Lib.hid hx6
      have HK6 := Lib.hid (HK5.out.typ hb6.2)
      obtain ⟨ul, u0, u1, u2, _, _, _⟩ := HK6.out.pb
      simp only at u0 u1 u2
      clear hb6 hx6 z0 z1 z2
      go_wp2_with fail
      refine (CL.out _ _ _ _ HX6.out).mono ?_
      rintro e w7 ⟨rfl, b7⟩
      have HB7 := Lib.hid (show Below base w w7 ∧ Typ w w7 from ⟨HB6.out.1.trans (b7.mono HX6.out.base.1), HB6.out.2.trans (Typ.of_below b7)⟩)
      have HX7 := Lib.hid (HX6.out.up b7)
      have HK7 := Lib.hid (HK6.out.up b7)
      obtain ⟨vl, v0, v1, v2, _, _, _⟩ := HK7.out.pb
      simp only at v0 v1 v2
      clear b7 u0 u1 u2
      have hap := HX7.out.apart HK7.out
      have hag := hap.1
      by_cases hr : refs (tr t2) m = 0
      · have hq : Q = (((m : Int), 0), t2.set m I0) := by rw [HQ2.out, if_pos hr]
        subst hq
        have HBK := Lib.hid (CB.out _ _ _ _ HX7.out)
        have s0 := HX7.out.xr.b.c 0 _ rfl
        have sx := HX7.out.xr.b.lt
        have f0 := HX7.out.ot.frozen (m * 8)
        have f1 := HX7.out.ot.frozen (m * 8 + 1)
        have f2 := HX7.out.ot.frozen (m * 8 + 2)
        have f3 := HX7.out.ot.frozen (m * 8 + 3)
        have f4 := HX7.out.ot.frozen (m * 8 + 4)
        have f5 := HX7.out.ot.frozen (m * 8 + 5)
        have f6 := HX7.out.ot.frozen (m * 8 + 6)
        have f7 := HX7.out.ot.frozen (m * 8 + 7)
        have hcn7 := HX7.out.ot.c m (by rw [hcl]; omega)
        have i0 : w7.cell? ⟨g6, m * 8, none⟩ = some (.int .i64 (ino t2 m).k) := hcn7 0 _ rfl
        have i1 := hcn7 1 _ rfl
        have i2 := hcn7 2 _ rfl
        have i3 := hcn7 3 _ rfl
        have i4 := hcn7 4 _ rfl
        have i5 := hcn7 5 _ rfl
        have i6 := hcn7 6 _ rfl
        have i7 := hcn7 7 _ rfl
        have hgl7 := HX7.out.base.2.2.1
        clear hcn7
        rw [hr]
        rw [hcl] at s0
        go_wp2_with fail
        go_region
        all_goals
          go_wp2
          go_ret2
          exact ⟨rfl, (HBK.out.after HB7.out.1 HB7.out.2).drew⟩
      · have hq : Q = (((m : Int), 0), touchF t2 m) := by rw [HQ2.out, if_neg hr]
        subst hq
        have hr1 : ((refs (tr t2) m : Int) == 0) = false := by rw [beq_eq_false_iff_ne]; omega
        go_wp2_with fail
        refine (CT2.out _ _ _ _ HX7.out).mono ?_
        rintro e w8 ⟨rfl, g8, cap8, sl8, hx8, hb8⟩
        have HX8 := Lib.hid hx8
        have HB8 := Lib.hid hb8
        obtain ⟨tl8, t0, t1, t2', _, _, _⟩ := (HK7.out.typ hb8.2).pb
        simp only at t0 t1 t2'
        clear hx8 hb8 v0 v1 v2
        go_wp2
        go_ret2
        exact ⟨rfl, g8, cap8, sl8, HX8.out, HB7.out.1.trans HB8.out.1, HB7.out.2.trans HB8.out.2⟩
  · have HQ := Lib.hid (show rmF t r = ((0, (removeF t r.u r.p).2), t) by unfold rmF; rw [if_pos hc])
    rw [HQ.out]
    clear HQ
    generalize removeF t r.u r.p = U at *
    obtain ⟨a, u2⟩ := U
    obtain ⟨ap, an, ai⟩ := a
    unfold plV at *
    simp only at *
    have hcc1 : (u2 != 0) = true := by simpa using hc
    clear h gm h1 hv
    go_enter Tryz.func69, Tryz.ntmps69
    go_wp2_with fail
    refine CR.out.mono ?_
    rintro e w1 ⟨rfl, b1⟩
    have B1 := Lib.hid b1
    have B2 := Lib.hid (B1.out.alloc B1.out.size (.cells #[.int .i64 (ap : Int), .string an, .int .i64 ai] 160))
    clear b1
    go_wp2
    go_ret2
    exact ⟨rfl, g, cap, sl, H.out.up B2.out, B2.out.mono H.out.base.1, Typ.of_below B2.out⟩

end Go.Proofs.YtmbbmmnpkdfecaaGreatDoor
