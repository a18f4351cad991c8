/- Package memfs and what it calls, at this seat's translation.
   Condition: as each theorem states; this text: MfChgW. -/
import Derived.Test.YtmbbmmnpkdfecaaGreatDoorMb17

set_option linter.all false

/- changeField at a write and at a new size. Conditions: as MfChg's. -/

set_option linter.all false
namespace Go.Proofs.YtmbbmmnpkdfecaaGreatDoor
open Go.RowKit

theorem sizeF_fit {x : Int} {r : Rq} {m : Nat} (h0 : 0 ≤ r.off) (hk : r.k ≠ 5) (hm : sizeF x r = (m : Int)) : r.d.length = 0 ∨ r.off.toNat + r.d.length ≤ m := by
  by_cases hd : r.d.length = 0
  · exact .inl hd
  · right
    unfold sizeF at hm
    rw [if_neg hk, if_neg hd] at hm
    omega

set_option maxRecDepth 100000 in
set_option maxHeartbeats 4000000 in
theorem chg4_ok (base X g cap : Nat) (sl : Nat → Sl) (t : FT) (r : Rq) (vd va : Value) (n : Nat) (w : World) (h : XO w base X g cap sl t r vd va) (hn : n < t.length) (ok : RqOk r) (hk : r.k = 4) (m : Nat) (hm : sizeF (((ino t n).d.length : Nat) : Int) r = (m : Int)) (hm2 : m ≤ 200) :
    Calls Tryz.prog 130 #[.pointer (some ⟨g, n * 8, none⟩), rqV r vd va] w fun e w' => e = .returned (.int .i64 (chgF (ino t n) r).1) ∧ MutP base X r vd va (chI t n (fun x => (chgF x r).2)) w w' := by
  have H := Lib.hid h
  have hrq := h.rq.more h.base.1
  obtain ⟨⟨da, dc, rfl, hdc, hdl, _⟩, ⟨aa, ac, rfl, hac, hal, _, _⟩, _, _, _, _, _, _, _⟩ := id hrq
  have hg := h.ot.lt.2
  have hcn := h.ot.c n hn
  have OK := Lib.hid ok
  have HN := Lib.hid hn
  have B0 := Lib.hid (show ∀ o : Obj, Below w.heap.size w (w.alloc o) from fun o => (Below.refl _ _).alloc (Nat.le_refl _) o)
  have R0 := Lib.hid (RqB.new w r.k r.u r.p r.t r.off r.sz (.slice da r.d.length dc) (.slice aa r.ac.length ac) r.a.n r.a.v 30)
  have c3 := hcn 3 _ rfl
  have fx := h.ot.fit n hn
  obtain ⟨ya, yc, hsy⟩ := own_slice (h.ot.r n hn).d
  have hbx := (h.ot.r n hn).byts fx
  rw [hsy] at c3 hbx
  have RQ := Lib.hid (fun (Z : World) (hZ : Below w.heap.size w Z) => (hrq.keep (w' := Z) fun b o hB => hZ.cell (p := ⟨b, o, none⟩) hB).more hZ.size)
  have CS := Lib.hid (fun (Z : World) (hZ : Below w.heap.size w Z) => sizeAfter_any (((ino t n).d.length : Nat) : Int) r (.slice da r.d.length dc) (.slice aa r.ac.length ac) Z (RQ.out Z hZ) ok.o0 ok.o1)
  have hfit : r.d.length = 0 ∨ r.off.toNat + r.d.length ≤ m := by
    exact sizeF_fit ok.o0 (by rw [hk]; decide) hm
  have hch : chgF (ino t n) r = (0, { ino t n with d := dataF (ino t n).d r m }) := by
    unfold chgF
    rw [if_pos (by rw [hk]; decide), if_neg (by rw [hm]; omega), hm]
    rfl
  have CD := Lib.hid (fun (Z : World) (hZ : Below w.heap.size w Z) => dataAfter_any (ino t n).d r m (.slice ya (ino t n).d.length yc) (.slice da r.d.length dc) (.slice aa r.ac.length ac) Z (hbx.up hZ) (RQ.out Z hZ) (by omega) ok.o0 hfit)
  have HP := Lib.hid (show ∀ (z : World) (v' : Value) (b9 : Nat), base ≤ b9 → Below w.heap.size w z → z.ownsRow b9 5 1 v' m (flatB (dataF (ino t n).d r m)) → MutP base X r (.slice da r.d.length dc) (.slice aa r.ac.length ac) (chI t n (fun x => (chgF x r).2)) w (z.setCell ⟨g, n * 8 + 3, none⟩ v') from fun z v' b9 hb9 hz ho => by
    have hdl9 : (dataF (ino t n).d r m).length = m := by have := ho.1; rw [flatB_len] at this; omega
    exact h.field hz hn (by omega) _ { ino t n with d := dataF (ino t n).d r m } { sl n with d := v' } rfl ⟨((h.ot.r n hn).up hz).e, by rw [hdl9]; exact own_lower ho hb9, ((h.ot.r n hn).up hz).a, ((h.ot.r n hn).up hz).x⟩ ⟨fx.k, fx.o, fx.q, fx.v, fx.es, fx.ac, fx.xs, fx.le, by rw [hdl9]; omega, fx.la, fx.lx⟩ rfl _ (by show (chgF (ino t n) r).2 = _; rw [hch]))
  have HC := Lib.hid (show (chgF (ino t n) r).1 = 0 by rw [hch])
  rw [hm] at CS
  unfold DataP at CD
  clear hfit hm hch
  have CI3 := Lib.hid (fun (z : World) (hz : Below w.heap.size w z) => (hz.cell (p := ⟨g, n * 8 + 3, none⟩) hg).trans c3)
  have F3 := Lib.hid (fun (z : World) (hz : Below w.heap.size w z) => ((h.up hz).ot.frozen (n * 8 + 3)))
  have HBS := Lib.hid h.base.1
  have hd1000 := fx.ld
  clear h hrq hcn ok fx hn hbx hsy RQ
  generalize chgF (ino t n) r = C at *
  unfold rqV
  simp only [rqV, hk] at CS CD
  generalize r.d.length = n1 at *
  generalize r.ac.length = n2 at *
  generalize (ino t n).d.length = n3 at *
  rw [hk] at R0 ⊢
  have c3' := CI3.out _ (B0.out (.cells #[.int .i64 4, .int .i64 r.u, .string r.p, .string r.t, .int .i64 r.off, .int .i64 r.sz, .slice da n1 dc, .slice aa n2 ac, .string r.a.n, .string r.a.v] 30))
  have b0' := Lib.hid (B0.out (.cells #[.int .i64 4, .int .i64 r.u, .string r.p, .string r.t, .int .i64 r.off, .int .i64 r.sz, .slice da n1 dc, .slice aa n2 ac, .string r.a.n, .string r.a.v] 30))
  go_enter Tryz.func130, Tryz.ntmps130
  go_upto_region 4 with fail
  generalize w.alloc (.cells #[.int .i64 4, .int .i64 r.u, .string r.p, .string r.t, .int .i64 r.off, .int .i64 r.sz, .slice da n1 dc, .slice aa n2 ac, .string r.a.n, .string r.a.v] 30) = w1 at *
  go_cut [5] from 13 to 73 (fun s5 wx => s5 = .int .i64 (m : Int) ∧ Below w1.heap.size w1 wx)
  case first =>
    obtain ⟨q0, q1, q2, q3, q4, q5, q6, q7, q8, q9, q10⟩ := R0.out
    have hg1 : g < w1.heap.size := Nat.lt_of_lt_of_le hg b0'.out.size
    have HB1 := Lib.hid ((Below.refl w1.heap.size w1).drew)
    go_region_with (go_at_call 163; refine (CS.out _ (b0'.out.trans (HB1.out.mono b0'.out.size))).mono ?_; rintro e z ⟨rfl, hb9⟩)
    all_goals
      go_wp2_with fail
      go_meet
      exact ⟨rfl, HB1.out.trans hb9⟩
  case rest =>
    obtain ⟨rfl, bx⟩ := hcut
    obtain ⟨w3, rfl⟩ : ∃ w3 : World, w3 = wc := ⟨_, rfl⟩
    have b3 := Lib.hid (b0'.out.trans (bx.mono b0'.out.size))
    have i3 := CI3.out _ b3.out
    have hg3 := Nat.lt_of_lt_of_le hg b3.out.size
    have hm3 : ¬ ((m : Int) > 200) := by omega
    obtain ⟨q0, q1, q2, q3, q4, q5, q6, q7, q8, q9, q10⟩ := R0.out.up bx
    clear bx
    have HB3 := Lib.hid ((Below.refl w3.heap.size w3).drew)
    go_upto_region 7 with fail
    go_region_with (go_at_call 164; refine (CD.out _ (b3.out.trans (HB3.out.mono b3.out.size))).mono ?_; rintro e z ⟨v', rfl, ho, hb9⟩; obtain ⟨u1, u2, rfl⟩ := own_slice ho; have bz := Lib.hid (b3.out.trans ((HB3.out.trans hb9).mono b3.out.size)); have z3 := CI3.out _ bz.out; have zf3 := F3.out _ bz.out)
    all_goals
      go_wp2
      go_ret
      exact ⟨ret_int HC.out.symm, HP.out _ _ _ (Nat.le_trans HBS.out b3.out.size) bz.out ho⟩

set_option maxRecDepth 100000 in
set_option maxHeartbeats 4000000 in
theorem chg4_no (base X g cap : Nat) (sl : Nat → Sl) (t : FT) (r : Rq) (vd va : Value) (n : Nat) (w : World) (h : XO w base X g cap sl t r vd va) (hn : n < t.length) (ok : RqOk r) (hk : r.k = 4) (hs : 200 < sizeF (((ino t n).d.length : Nat) : Int) r) :
    Calls Tryz.prog 130 #[.pointer (some ⟨g, n * 8, none⟩), rqV r vd va] w fun e w' => e = .returned (.int .i64 (chgF (ino t n) r).1) ∧ MutP base X r vd va (chI t n (fun x => (chgF x r).2)) w w' := by
  have H := Lib.hid h
  have hrq := h.rq.more h.base.1
  obtain ⟨⟨da, dc, rfl, hdc, hdl, _⟩, ⟨aa, ac, rfl, hac, hal, _, _⟩, _, _, _, _, _, _, _⟩ := id hrq
  have hg := h.ot.lt.2
  have hcn := h.ot.c n hn
  have OK := Lib.hid ok
  have HN := Lib.hid hn
  have B0 := Lib.hid (show ∀ o : Obj, Below w.heap.size w (w.alloc o) from fun o => (Below.refl _ _).alloc (Nat.le_refl _) o)
  have R0 := Lib.hid (RqB.new w r.k r.u r.p r.t r.off r.sz (.slice da r.d.length dc) (.slice aa r.ac.length ac) r.a.n r.a.v 30)
  have c3 := hcn 3 _ rfl
  have fx := h.ot.fit n hn
  obtain ⟨ya, yc, hsy⟩ := own_slice (h.ot.r n hn).d
  have hbx := (h.ot.r n hn).byts fx
  rw [hsy] at c3 hbx
  have RQ := Lib.hid (fun (Z : World) (hZ : Below w.heap.size w Z) => (hrq.keep (w' := Z) fun b o hB => hZ.cell (p := ⟨b, o, none⟩) hB).more hZ.size)
  have CS := Lib.hid (fun (Z : World) (hZ : Below w.heap.size w Z) => sizeAfter_any (((ino t n).d.length : Nat) : Int) r (.slice da r.d.length dc) (.slice aa r.ac.length ac) Z (RQ.out Z hZ) ok.o0 ok.o1)
  have HP := Lib.hid (show ∀ (z : World), Below w.heap.size w z → MutP base X r (.slice da r.d.length dc) (.slice aa r.ac.length ac) (chI t n (fun x => (chgF x r).2)) w z from fun z hz => by
    rw [chI_self t n hn _ (by simp [chgF, hk, hs])]; exact MutP.same h hz)
  have HC := Lib.hid (show (chgF (ino t n) r).1 = 10 by simp [chgF, hk, hs])
  generalize sizeF (((ino t n).d.length : Nat) : Int) r = S at *
  have CI3 := Lib.hid (fun (z : World) (hz : Below w.heap.size w z) => (hz.cell (p := ⟨g, n * 8 + 3, none⟩) hg).trans c3)
  have F3 := Lib.hid (fun (z : World) (hz : Below w.heap.size w z) => ((h.up hz).ot.frozen (n * 8 + 3)))
  have HBS := Lib.hid h.base.1
  have hd1000 := fx.ld
  clear h hrq hcn ok fx hn hbx hsy RQ
  generalize chgF (ino t n) r = C at *
  unfold rqV
  simp only [rqV, hk] at CS 
  generalize r.d.length = n1 at *
  generalize r.ac.length = n2 at *
  generalize (ino t n).d.length = n3 at *
  rw [hk] at R0 ⊢
  have c3' := CI3.out _ (B0.out (.cells #[.int .i64 4, .int .i64 r.u, .string r.p, .string r.t, .int .i64 r.off, .int .i64 r.sz, .slice da n1 dc, .slice aa n2 ac, .string r.a.n, .string r.a.v] 30))
  have b0' := Lib.hid (B0.out (.cells #[.int .i64 4, .int .i64 r.u, .string r.p, .string r.t, .int .i64 r.off, .int .i64 r.sz, .slice da n1 dc, .slice aa n2 ac, .string r.a.n, .string r.a.v] 30))
  go_enter Tryz.func130, Tryz.ntmps130
  go_upto_region 4 with fail
  generalize w.alloc (.cells #[.int .i64 4, .int .i64 r.u, .string r.p, .string r.t, .int .i64 r.off, .int .i64 r.sz, .slice da n1 dc, .slice aa n2 ac, .string r.a.n, .string r.a.v] 30) = w1 at *
  go_cut [5] from 13 to 73 (fun s5 wx => s5 = .int .i64 S ∧ Below w1.heap.size w1 wx)
  case first =>
    obtain ⟨q0, q1, q2, q3, q4, q5, q6, q7, q8, q9, q10⟩ := R0.out
    have hg1 : g < w1.heap.size := Nat.lt_of_lt_of_le hg b0'.out.size
    have HB1 := Lib.hid ((Below.refl w1.heap.size w1).drew)
    go_region_with (go_at_call 163; refine (CS.out _ (b0'.out.trans (HB1.out.mono b0'.out.size))).mono ?_; rintro e z ⟨rfl, hb9⟩)
    all_goals
      go_wp2_with fail
      go_meet
      exact ⟨rfl, HB1.out.trans hb9⟩
  case rest =>
    obtain ⟨rfl, bx⟩ := hcut
    obtain ⟨w3, rfl⟩ : ∃ w3 : World, w3 = wc := ⟨_, rfl⟩
    have b3 := Lib.hid (b0'.out.trans (bx.mono b0'.out.size))
    have hs3 : S > 200 := hs
    clear hs
    go_wp2
    go_ret
    exact ⟨ret_int HC.out.symm, HP.out _ b3.out⟩

set_option maxRecDepth 100000 in
set_option maxHeartbeats 4000000 in
theorem chg5_ok (base X g cap : Nat) (sl : Nat → Sl) (t : FT) (r : Rq) (vd va : Value) (n : Nat) (w : World) (h : XO w base X g cap sl t r vd va) (hn : n < t.length) (ok : RqOk r) (hk : r.k = 5) (m : Nat) (hm : sizeF (((ino t n).d.length : Nat) : Int) r = (m : Int)) (hm2 : m ≤ 200) :
    Calls Tryz.prog 130 #[.pointer (some ⟨g, n * 8, none⟩), rqV r vd va] w fun e w' => e = .returned (.int .i64 (chgF (ino t n) r).1) ∧ MutP base X r vd va (chI t n (fun x => (chgF x r).2)) w w' := by
  have H := Lib.hid h
  have hrq := h.rq.more h.base.1
  obtain ⟨⟨da, dc, rfl, hdc, hdl, _⟩, ⟨aa, ac, rfl, hac, hal, _, _⟩, _, _, _, _, _, _, _⟩ := id hrq
  have hg := h.ot.lt.2
  have hcn := h.ot.c n hn
  have OK := Lib.hid ok
  have HN := Lib.hid hn
  have B0 := Lib.hid (show ∀ o : Obj, Below w.heap.size w (w.alloc o) from fun o => (Below.refl _ _).alloc (Nat.le_refl _) o)
  have R0 := Lib.hid (RqB.new w r.k r.u r.p r.t r.off r.sz (.slice da r.d.length dc) (.slice aa r.ac.length ac) r.a.n r.a.v 30)
  have c3 := hcn 3 _ rfl
  have fx := h.ot.fit n hn
  obtain ⟨ya, yc, hsy⟩ := own_slice (h.ot.r n hn).d
  have hbx := (h.ot.r n hn).byts fx
  rw [hsy] at c3 hbx
  have RQ := Lib.hid (fun (Z : World) (hZ : Below w.heap.size w Z) => (hrq.keep (w' := Z) fun b o hB => hZ.cell (p := ⟨b, o, none⟩) hB).more hZ.size)
  have CS := Lib.hid (fun (Z : World) (hZ : Below w.heap.size w Z) => sizeAfter_any (((ino t n).d.length : Nat) : Int) r (.slice da r.d.length dc) (.slice aa r.ac.length ac) Z (RQ.out Z hZ) ok.o0 ok.o1)
  have hfit : r.d.length = 0 ∨ r.off.toNat + r.d.length ≤ m := by
    exact .inl (ok.d5 hk)
  have hch : chgF (ino t n) r = (0, { ino t n with d := dataF (ino t n).d r m }) := by
    unfold chgF
    rw [if_pos (by rw [hk]; decide), if_neg (by rw [hm]; omega), hm]
    rfl
  have CD := Lib.hid (fun (Z : World) (hZ : Below w.heap.size w Z) => dataAfter_any (ino t n).d r m (.slice ya (ino t n).d.length yc) (.slice da r.d.length dc) (.slice aa r.ac.length ac) Z (hbx.up hZ) (RQ.out Z hZ) (by omega) ok.o0 hfit)
  have HP := Lib.hid (show ∀ (z : World) (v' : Value) (b9 : Nat), base ≤ b9 → Below w.heap.size w z → z.ownsRow b9 5 1 v' m (flatB (dataF (ino t n).d r m)) → MutP base X r (.slice da r.d.length dc) (.slice aa r.ac.length ac) (chI t n (fun x => (chgF x r).2)) w (z.setCell ⟨g, n * 8 + 3, none⟩ v') from fun z v' b9 hb9 hz ho => by
    have hdl9 : (dataF (ino t n).d r m).length = m := by have := ho.1; rw [flatB_len] at this; omega
    exact h.field hz hn (by omega) _ { ino t n with d := dataF (ino t n).d r m } { sl n with d := v' } rfl ⟨((h.ot.r n hn).up hz).e, by rw [hdl9]; exact own_lower ho hb9, ((h.ot.r n hn).up hz).a, ((h.ot.r n hn).up hz).x⟩ ⟨fx.k, fx.o, fx.q, fx.v, fx.es, fx.ac, fx.xs, fx.le, by rw [hdl9]; omega, fx.la, fx.lx⟩ rfl _ (by show (chgF (ino t n) r).2 = _; rw [hch]))
  have HC := Lib.hid (show (chgF (ino t n) r).1 = 0 by rw [hch])
  rw [hm] at CS
  unfold DataP at CD
  clear hfit hm hch
  have CI3 := Lib.hid (fun (z : World) (hz : Below w.heap.size w z) => (hz.cell (p := ⟨g, n * 8 + 3, none⟩) hg).trans c3)
  have F3 := Lib.hid (fun (z : World) (hz : Below w.heap.size w z) => ((h.up hz).ot.frozen (n * 8 + 3)))
  have HBS := Lib.hid h.base.1
  have hd1000 := fx.ld
  clear h hrq hcn ok fx hn hbx hsy RQ
  generalize chgF (ino t n) r = C at *
  unfold rqV
  simp only [rqV, hk] at CS CD
  generalize r.d.length = n1 at *
  generalize r.ac.length = n2 at *
  generalize (ino t n).d.length = n3 at *
  rw [hk] at R0 ⊢
  have c3' := CI3.out _ (B0.out (.cells #[.int .i64 5, .int .i64 r.u, .string r.p, .string r.t, .int .i64 r.off, .int .i64 r.sz, .slice da n1 dc, .slice aa n2 ac, .string r.a.n, .string r.a.v] 30))
  have b0' := Lib.hid (B0.out (.cells #[.int .i64 5, .int .i64 r.u, .string r.p, .string r.t, .int .i64 r.off, .int .i64 r.sz, .slice da n1 dc, .slice aa n2 ac, .string r.a.n, .string r.a.v] 30))
  go_enter Tryz.func130, Tryz.ntmps130
  go_upto_region 4 with fail
  generalize w.alloc (.cells #[.int .i64 5, .int .i64 r.u, .string r.p, .string r.t, .int .i64 r.off, .int .i64 r.sz, .slice da n1 dc, .slice aa n2 ac, .string r.a.n, .string r.a.v] 30) = w1 at *
  go_cut [5] from 13 to 73 (fun s5 wx => s5 = .int .i64 (m : Int) ∧ Below w1.heap.size w1 wx)
  case first =>
    obtain ⟨q0, q1, q2, q3, q4, q5, q6, q7, q8, q9, q10⟩ := R0.out
    have hg1 : g < w1.heap.size := Nat.lt_of_lt_of_le hg b0'.out.size
    have HB1 := Lib.hid ((Below.refl w1.heap.size w1).drew)
    go_region_with (go_at_call 163; refine (CS.out _ (b0'.out.trans (HB1.out.mono b0'.out.size))).mono ?_; rintro e z ⟨rfl, hb9⟩)
    all_goals
      go_wp2_with fail
      go_meet
      exact ⟨rfl, HB1.out.trans hb9⟩
  case rest =>
    obtain ⟨rfl, bx⟩ := hcut
    obtain ⟨w3, rfl⟩ : ∃ w3 : World, w3 = wc := ⟨_, rfl⟩
    have b3 := Lib.hid (b0'.out.trans (bx.mono b0'.out.size))
    have i3 := CI3.out _ b3.out
    have hg3 := Nat.lt_of_lt_of_le hg b3.out.size
    have hm3 : ¬ ((m : Int) > 200) := by omega
    obtain ⟨q0, q1, q2, q3, q4, q5, q6, q7, q8, q9, q10⟩ := R0.out.up bx
    clear bx
    have HB3 := Lib.hid ((Below.refl w3.heap.size w3).drew)
    go_upto_region 7 with fail
    go_region_with (go_at_call 164; refine (CD.out _ (b3.out.trans (HB3.out.mono b3.out.size))).mono ?_; rintro e z ⟨v', rfl, ho, hb9⟩; obtain ⟨u1, u2, rfl⟩ := own_slice ho; have bz := Lib.hid (b3.out.trans ((HB3.out.trans hb9).mono b3.out.size)); have z3 := CI3.out _ bz.out; have zf3 := F3.out _ bz.out)
    all_goals
      go_wp2
      go_ret
      exact ⟨ret_int HC.out.symm, HP.out _ _ _ (Nat.le_trans HBS.out b3.out.size) bz.out ho⟩

set_option maxRecDepth 100000 in
set_option maxHeartbeats 4000000 in
theorem chg5_no (base X g cap : Nat) (sl : Nat → Sl) (t : FT) (r : Rq) (vd va : Value) (n : Nat) (w : World) (h : XO w base X g cap sl t r vd va) (hn : n < t.length) (ok : RqOk r) (hk : r.k = 5) (hs : 200 < sizeF (((ino t n).d.length : Nat) : Int) r) :
    Calls Tryz.prog 130 #[.pointer (some ⟨g, n * 8, none⟩), rqV r vd va] w fun e w' => e = .returned (.int .i64 (chgF (ino t n) r).1) ∧ MutP base X r vd va (chI t n (fun x => (chgF x r).2)) w w' := by
  have H := Lib.hid h
  have hrq := h.rq.more h.base.1
  obtain ⟨⟨da, dc, rfl, hdc, hdl, _⟩, ⟨aa, ac, rfl, hac, hal, _, _⟩, _, _, _, _, _, _, _⟩ := id hrq
  have hg := h.ot.lt.2
  have hcn := h.ot.c n hn
  have OK := Lib.hid ok
  have HN := Lib.hid hn
  have B0 := Lib.hid (show ∀ o : Obj, Below w.heap.size w (w.alloc o) from fun o => (Below.refl _ _).alloc (Nat.le_refl _) o)
  have R0 := Lib.hid (RqB.new w r.k r.u r.p r.t r.off r.sz (.slice da r.d.length dc) (.slice aa r.ac.length ac) r.a.n r.a.v 30)
  have c3 := hcn 3 _ rfl
  have fx := h.ot.fit n hn
  obtain ⟨ya, yc, hsy⟩ := own_slice (h.ot.r n hn).d
  have hbx := (h.ot.r n hn).byts fx
  rw [hsy] at c3 hbx
  have RQ := Lib.hid (fun (Z : World) (hZ : Below w.heap.size w Z) => (hrq.keep (w' := Z) fun b o hB => hZ.cell (p := ⟨b, o, none⟩) hB).more hZ.size)
  have CS := Lib.hid (fun (Z : World) (hZ : Below w.heap.size w Z) => sizeAfter_any (((ino t n).d.length : Nat) : Int) r (.slice da r.d.length dc) (.slice aa r.ac.length ac) Z (RQ.out Z hZ) ok.o0 ok.o1)
  have HP := Lib.hid (show ∀ (z : World), Below w.heap.size w z → MutP base X r (.slice da r.d.length dc) (.slice aa r.ac.length ac) (chI t n (fun x => (chgF x r).2)) w z from fun z hz => by
    rw [chI_self t n hn _ (by simp [chgF, hk, hs])]; exact MutP.same h hz)
  have HC := Lib.hid (show (chgF (ino t n) r).1 = 10 by simp [chgF, hk, hs])
  generalize sizeF (((ino t n).d.length : Nat) : Int) r = S at *
  have CI3 := Lib.hid (fun (z : World) (hz : Below w.heap.size w z) => (hz.cell (p := ⟨g, n * 8 + 3, none⟩) hg).trans c3)
  have F3 := Lib.hid (fun (z : World) (hz : Below w.heap.size w z) => ((h.up hz).ot.frozen (n * 8 + 3)))
  have HBS := Lib.hid h.base.1
  have hd1000 := fx.ld
  clear h hrq hcn ok fx hn hbx hsy RQ
  generalize chgF (ino t n) r = C at *
  unfold rqV
  simp only [rqV, hk] at CS 
  generalize r.d.length = n1 at *
  generalize r.ac.length = n2 at *
  generalize (ino t n).d.length = n3 at *
  rw [hk] at R0 ⊢
  have c3' := CI3.out _ (B0.out (.cells #[.int .i64 5, .int .i64 r.u, .string r.p, .string r.t, .int .i64 r.off, .int .i64 r.sz, .slice da n1 dc, .slice aa n2 ac, .string r.a.n, .string r.a.v] 30))
  have b0' := Lib.hid (B0.out (.cells #[.int .i64 5, .int .i64 r.u, .string r.p, .string r.t, .int .i64 r.off, .int .i64 r.sz, .slice da n1 dc, .slice aa n2 ac, .string r.a.n, .string r.a.v] 30))
  go_enter Tryz.func130, Tryz.ntmps130
  go_upto_region 4 with fail
  generalize w.alloc (.cells #[.int .i64 5, .int .i64 r.u, .string r.p, .string r.t, .int .i64 r.off, .int .i64 r.sz, .slice da n1 dc, .slice aa n2 ac, .string r.a.n, .string r.a.v] 30) = w1 at *
  go_cut [5] from 13 to 73 (fun s5 wx => s5 = .int .i64 S ∧ Below w1.heap.size w1 wx)
  case first =>
    obtain ⟨q0, q1, q2, q3, q4, q5, q6, q7, q8, q9, q10⟩ := R0.out
    have hg1 : g < w1.heap.size := Nat.lt_of_lt_of_le hg b0'.out.size
    have HB1 := Lib.hid ((Below.refl w1.heap.size w1).drew)
    go_region_with (go_at_call 163; refine (CS.out _ (b0'.out.trans (HB1.out.mono b0'.out.size))).mono ?_; rintro e z ⟨rfl, hb9⟩)
    all_goals
      go_wp2_with fail
      go_meet
      exact ⟨rfl, HB1.out.trans hb9⟩
  case rest =>
    obtain ⟨rfl, bx⟩ := hcut
    obtain ⟨w3, rfl⟩ : ∃ w3 : World, w3 = wc := ⟨_, rfl⟩
    have b3 := Lib.hid (b0'.out.trans (bx.mono b0'.out.size))
    have hs3 : S > 200 := hs
    clear hs
    go_wp2
    go_ret
    exact ⟨ret_int HC.out.symm, HP.out _ b3.out⟩

end Go.Proofs.YtmbbmmnpkdfecaaGreatDoor
