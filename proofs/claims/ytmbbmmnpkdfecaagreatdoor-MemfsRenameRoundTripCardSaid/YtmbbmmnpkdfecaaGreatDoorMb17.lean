/- Package memfs and what it calls, at this seat's translation.
   Condition: as each theorem states; this text: MfChg. -/
import Derived.Test.YtmbbmmnpkdfecaaGreatDoorMb15
import Derived.Test.YtmbbmmnpkdfecaaGreatDoorMb9
import Derived.Test.YtmbbmmnpkdfecaaGreatDoorMb14
import Derived.Test.YtmbbmmnpkdfecaaGreatDoorMb6

set_option linter.all false

/- changeField: the field that a request gives anew. Conditions: the execution is the call's own; the request is one that passed its checks. -/

set_option linter.all false
namespace Go.Proofs.YtmbbmmnpkdfecaaGreatDoor
open Go.RowKit

/-- The code of a change, and the inode that it leaves. -/
def chgF (x : Ino) (r : Rq) : Int × Ino :=
  if r.k = 4 ∨ r.k = 5 then (if 200 < sizeF x.d.length r then (10, x) else (0, { x with d := dataF x.d r (sizeF x.d.length r).toNat }))
  else if r.k = 11 then (0, { x with ac := r.ac })
  else if r.k = 13 then (0, { x with q := r.sz })
  else if r.k = 14 then (0, { x with o := r.sz })
  else if r.k = 12 then (if (setF x.xs r.a).1 ≠ 0 then (2, x) else (0, { x with xs := setO x.xs r.a }))
  else (0, x)
/-- What is known of a request behind its checks. -/
structure RqOk (r : Rq) : Prop where
  o0 : 0 ≤ r.off
  o1 : r.off ≤ 1000000
  z0 : 0 ≤ r.sz
  d5 : r.k = 5 → r.d.length = 0
  dl : r.d.length ≤ 1000
  al : r.ac.length ≤ 1000
theorem chI_self (t : FT) (n : Nat) (hn : n < t.length) (f : Ino → Ino) (hf : f (ino t n) = ino t n) : chI t n f = t := by
  unfold chI; rw [hf, ino_at hn]; exact List.set_getElem_self hn
theorem MutP.same {w w' : World} {base X g cap : Nat} {sl : Nat → Sl} {t : FT} {r : Rq} {vd va : Value} (h : XO w base X g cap sl t r vd va) (hb : Below w.heap.size w w') : MutP base X r vd va t w w' :=
  ⟨g, cap, sl, h.up hb, hb.mono h.base.1, Typ.of_below hb⟩
/-- One cell stored, by a value that reads as the new field; the entries stay. -/
theorem XO.field {w w1 : World} {base X g cap : Nat} {sl : Nat → Sl} {t : FT} {r : Rq} {vd va : Value} (h : XO w base X g cap sl t r vd va) (hb : Below w.heap.size w w1) {j : Nat} (hj : j < t.length) {i : Nat} (hi : i < 8) (u : Value) (x' : Ino) (s' : Sl)
    (hc : inoL x' s' = (inoL (ino t j) (sl j)).set i u) (hr : Rws w1 base s' x') (hf : Fit x') (he : s'.e = (sl j).e) (f : Ino → Ino) (hx : f (ino t j) = x') :
    MutP base X r vd va (chI t j f) w (w1.setCell ⟨g, j * 8 + i, none⟩ u) := by
  subst hx
  exact ⟨g, cap, _, (h.up hb).put hj hi u _ s' hc hr hf (fun k hk hkj b hb => by rw [he]; exact h.ot.ne k j hk hj hkj b hb), (hb.mono h.base.1).trans ((h.up hb).putB _ u), (Typ.of_below hb).trans ((h.up hb).putT _ u)⟩

theorem Acls.fits_ {w : World} {B : Nat} {v : Value} {es : List Ent} (h : Acls w B v es) : ∀ e ∈ es, e.fits := by
  obtain ⟨a, c, _, _, _, hf, _⟩ := h; exact hf
theorem setL_mem {xs : List Attr} {e x : Attr} (h : x ∈ setL xs e) : (x ∈ xs ∧ x.n ≠ e.n) ∨ (x = e ∧ e.v ≠ ByteArray.empty) := by
  unfold setL at h
  rw [List.mem_append, List.mem_append] at h
  rcases h with (h | h) | h
  · obtain ⟨h1, h2⟩ := List.mem_filter.1 h
    exact .inl ⟨h1, ltS_ne h2⟩
  · unfold presA at h
    split at h
    · cases h
    · rename_i h2; exact .inr ⟨List.mem_singleton.1 h, h2⟩
  · obtain ⟨h1, h2⟩ := List.mem_filter.1 h
    exact .inl ⟨h1, (ltS_ne h2).symm⟩
theorem setO_fits {xs : List Attr} {a : Attr} (h : ∀ e ∈ xs, e.fits) (ha : a.fits) : ∀ e ∈ setO xs a, e.fits := by
  intro e he
  unfold setO at he
  split at he
  · rcases setL_mem he with ⟨h1, _⟩ | ⟨h1, _⟩
    · exact h e h1
    · rw [h1]; exact ha
  · cases he
theorem setO_len {xs : List Attr} {a : Attr} (hs : (setF xs a).1 = 0) : (setO xs a).length ≤ 1000 := by
  have hs2 := hs
  unfold setF at hs
  unfold setO
  rw [if_pos hs2]
  split at hs
  · split at hs
    · split at hs
      · cases hs
      · omega
    · rename_i h; exact absurd hs h
  · rename_i h; exact absurd hs h
/-- slices.Clone of an access list. -/
theorem cloneAcls (v : Value) (es : List Ent) (w : World) {base : Nat} (hb : base ≤ w.heap.size) (h : Acls w w.heap.size v es) (hl : es.length ≤ 1000) :
    Calls Tryz.prog 64 #[v] w fun e w' => ∃ v', e = .returned v' ∧ w'.ownsRow base 108 3 v' es.length (flatE es) ∧ Below w.heap.size w w' := by
  obtain ⟨a, c, rfl, hc, _, hf, hx⟩ := id h
  obtain ⟨h0, _, hn⟩ := h.news
  refine (cloneE_any a es.length c (flatE es) w (flatE_len es) (by omega) h0 hn (flatE_one es)).mono ?_
  rintro e w' ⟨v', rfl, ho, hb2⟩
  exact ⟨v', rfl, own_lower ho hb, hb2⟩

set_option maxRecDepth 100000 in
set_option maxHeartbeats 4000000 in
theorem chg13_any (base X g cap : Nat) (sl : Nat → Sl) (t : FT) (r : Rq) (vd va : Value) (n : Nat) (w : World) (h : XO w base X g cap sl t r vd va) (hn : n < t.length) (ok : RqOk r) (hk : r.k = 13) :
    Calls Tryz.prog 130 #[.pointer (some ⟨g, n * 8, none⟩), rqV r vd va] w fun e w' => e = .returned (.int .i64 (chgF (ino t n) r).1) ∧ MutP base X r vd va (chI t n (fun x => (chgF x r).2)) w w' := by
  have H := Lib.hid h
  have hrq := h.rq.more h.base.1
  obtain ⟨⟨da, dc, rfl, hdc, hdl, _⟩, ⟨aa, ac, rfl, hac, hal, _, _⟩, _, _, _, _, _, _, _⟩ := id hrq
  have hg := h.ot.lt.2
  have hcn := h.ot.c n hn
  have OK := Lib.hid ok
  have HN := Lib.hid hn
  have B0 := Lib.hid (show ∀ o : Obj, Below w.heap.size w (w.alloc o) from fun o => (Below.refl _ _).alloc (Nat.le_refl _) o)
  have R0 := Lib.hid (RqB.new w r.k r.u r.p r.t r.off r.sz (.slice da r.d.length dc) (.slice aa r.ac.length ac) r.a.n r.a.v 30)
  have ci := hcn 6 _ rfl
  have fi := h.ot.frozen (n * 8 + 6)
  have fx := h.ot.fit n hn
  have HP := Lib.hid (show ∀ o : Obj, MutP base X r (.slice da r.d.length dc) (.slice aa r.ac.length ac) (chI t n (fun x => (chgF x r).2)) w ((w.setCell ⟨g, n * 8 + 6, none⟩ (.int .i64 r.sz)).alloc o) from fun o => by
    rw [← World.setCell_alloc_past o g (n * 8 + 6) _ hg]
    exact h.field (B0.out o) hn (by omega) _ { ino t n with q := r.sz } (sl n) rfl ⟨((h.ot.r n hn).up (B0.out o)).e, ((h.ot.r n hn).up (B0.out o)).d, ((h.ot.r n hn).up (B0.out o)).a, ((h.ot.r n hn).up (B0.out o)).x⟩ ⟨fx.k, fx.o, H.out.rq.sz, fx.v, fx.es, fx.ac, fx.xs, fx.le, fx.ld, fx.la, fx.lx⟩ rfl _ (by simp [chgF, hk]))
  have HC := Lib.hid (show (chgF (ino t n) r).1 = 0 by simp [chgF, hk])
  have ci' := fun o : Obj => ((B0.out o).cell (p := ⟨g, n * 8 + 6, none⟩) hg).trans ci
  clear h hrq hcn ok fx hn ci
  generalize chgF (ino t n) r = C at *
  unfold rqV
  generalize r.d.length = n1 at *
  generalize r.ac.length = n2 at *
  generalize r.sz = sz at *
  rw [hk] at R0 ⊢
  go_enter Tryz.func130, Tryz.ntmps130
  go_wp2
  go_ret
  exact ⟨ret_int HC.out.symm, HP.out _⟩

set_option maxRecDepth 100000 in
set_option maxHeartbeats 4000000 in
theorem chg14_any (base X g cap : Nat) (sl : Nat → Sl) (t : FT) (r : Rq) (vd va : Value) (n : Nat) (w : World) (h : XO w base X g cap sl t r vd va) (hn : n < t.length) (ok : RqOk r) (hk : r.k = 14) :
    Calls Tryz.prog 130 #[.pointer (some ⟨g, n * 8, none⟩), rqV r vd va] w fun e w' => e = .returned (.int .i64 (chgF (ino t n) r).1) ∧ MutP base X r vd va (chI t n (fun x => (chgF x r).2)) w w' := by
  have H := Lib.hid h
  have hrq := h.rq.more h.base.1
  obtain ⟨⟨da, dc, rfl, hdc, hdl, _⟩, ⟨aa, ac, rfl, hac, hal, _, _⟩, _, _, _, _, _, _, _⟩ := id hrq
  have hg := h.ot.lt.2
  have hcn := h.ot.c n hn
  have OK := Lib.hid ok
  have HN := Lib.hid hn
  have B0 := Lib.hid (show ∀ o : Obj, Below w.heap.size w (w.alloc o) from fun o => (Below.refl _ _).alloc (Nat.le_refl _) o)
  have R0 := Lib.hid (RqB.new w r.k r.u r.p r.t r.off r.sz (.slice da r.d.length dc) (.slice aa r.ac.length ac) r.a.n r.a.v 30)
  have ci := hcn 1 _ rfl
  have fi := h.ot.frozen (n * 8 + 1)
  have fx := h.ot.fit n hn
  have HP := Lib.hid (show ∀ o : Obj, MutP base X r (.slice da r.d.length dc) (.slice aa r.ac.length ac) (chI t n (fun x => (chgF x r).2)) w ((w.setCell ⟨g, n * 8 + 1, none⟩ (.int .i64 r.sz)).alloc o) from fun o => by
    rw [← World.setCell_alloc_past o g (n * 8 + 1) _ hg]
    exact h.field (B0.out o) hn (by omega) _ { ino t n with o := r.sz } (sl n) rfl ⟨((h.ot.r n hn).up (B0.out o)).e, ((h.ot.r n hn).up (B0.out o)).d, ((h.ot.r n hn).up (B0.out o)).a, ((h.ot.r n hn).up (B0.out o)).x⟩ ⟨fx.k, H.out.rq.sz, fx.q, fx.v, fx.es, fx.ac, fx.xs, fx.le, fx.ld, fx.la, fx.lx⟩ rfl _ (by simp [chgF, hk]))
  have HC := Lib.hid (show (chgF (ino t n) r).1 = 0 by simp [chgF, hk])
  have ci' := fun o : Obj => ((B0.out o).cell (p := ⟨g, n * 8 + 1, none⟩) hg).trans ci
  clear h hrq hcn ok fx hn ci
  generalize chgF (ino t n) r = C at *
  unfold rqV
  generalize r.d.length = n1 at *
  generalize r.ac.length = n2 at *
  generalize r.sz = sz at *
  rw [hk] at R0 ⊢
  go_enter Tryz.func130, Tryz.ntmps130
  go_wp2
  go_ret
  exact ⟨ret_int HC.out.symm, HP.out _⟩

set_option maxRecDepth 100000 in
set_option maxHeartbeats 4000000 in
theorem chg11_any (base X g cap : Nat) (sl : Nat → Sl) (t : FT) (r : Rq) (vd va : Value) (n : Nat) (w : World) (h : XO w base X g cap sl t r vd va) (hn : n < t.length) (ok : RqOk r) (hk : r.k = 11) :
    Calls Tryz.prog 130 #[.pointer (some ⟨g, n * 8, none⟩), rqV r vd va] w fun e w' => e = .returned (.int .i64 (chgF (ino t n) r).1) ∧ MutP base X r vd va (chI t n (fun x => (chgF x r).2)) w w' := by
  have H := Lib.hid h
  have hrq := h.rq.more h.base.1
  obtain ⟨⟨da, dc, rfl, hdc, hdl, _⟩, ⟨aa, ac, rfl, hac, hal, _, _⟩, _, _, _, _, _, _, _⟩ := id hrq
  have hg := h.ot.lt.2
  have hcn := h.ot.c n hn
  have OK := Lib.hid ok
  have HN := Lib.hid hn
  have B0 := Lib.hid (show ∀ o : Obj, Below w.heap.size w (w.alloc o) from fun o => (Below.refl _ _).alloc (Nat.le_refl _) o)
  have R0 := Lib.hid (RqB.new w r.k r.u r.p r.t r.off r.sz (.slice da r.d.length dc) (.slice aa r.ac.length ac) r.a.n r.a.v 30)
  have c4 := hcn 4 _ rfl
  have fx := h.ot.fit n hn
  have f4 := fun (z : World) (hz : Below w.heap.size w z) => ((h.up hz).ot.frozen (n * 8 + 4))
  have HCL := Lib.hid (fun (Z : World) (hZ : Below w.heap.size w Z) => cloneAcls (.slice aa r.ac.length ac) r.ac Z (h.up hZ).base.1 ((hrq.ac.keep (w' := Z) fun b o hB => hZ.cell (p := ⟨b, o, none⟩) hB).more hZ.size) (by have := ok.al; omega))
  have HP := Lib.hid (show ∀ (z : World) (v' : Value), Below w.heap.size w z → z.ownsRow base 108 3 v' r.ac.length (flatE r.ac) → MutP base X r (.slice da r.d.length dc) (.slice aa r.ac.length ac) (chI t n (fun x => (chgF x r).2)) w (z.setCell ⟨g, n * 8 + 4, none⟩ v') from fun z v' hz ho =>
    h.field hz hn (by omega) _ { ino t n with ac := r.ac } { sl n with a := v' } rfl ⟨((h.ot.r n hn).up hz).e, ((h.ot.r n hn).up hz).d, ho, ((h.ot.r n hn).up hz).x⟩ ⟨fx.k, fx.o, fx.q, fx.v, fx.es, hrq.ac.fits_, fx.xs, fx.le, fx.ld, ok.al, fx.lx⟩ rfl _ (by simp [chgF, hk]))
  have HC := Lib.hid (show (chgF (ino t n) r).1 = 0 by simp [chgF, hk])
  have CI4 := Lib.hid (fun (z : World) (hz : Below w.heap.size w z) => (hz.cell (p := ⟨g, n * 8 + 4, none⟩) hg).trans c4)
  have F4 := Lib.hid f4
  clear h hrq hcn ok fx hn c4 f4
  generalize chgF (ino t n) r = C at *
  unfold rqV
  generalize r.d.length = n1 at *
  generalize hn2 : r.ac.length = n2 at *
  rw [hk] at R0 ⊢
  go_enter Tryz.func130, Tryz.ntmps130
  go_wp2_with (go_at_call 64; refine (HCL.out _ (B0.out _)).mono ?_; rintro e z ⟨v', rfl, ho, hbz⟩; have hz4 := CI4.out z ((B0.out _).trans (hbz.mono (B0.out _).size)); have hf4 := F4.out z ((B0.out _).trans (hbz.mono (B0.out _).size)); obtain ⟨q1, q2, rfl⟩ := own_slice ho)
  go_ret
  exact ⟨ret_int HC.out.symm, HP.out _ _ ((B0.out _).trans (hbz.mono (B0.out _).size)) ho⟩

set_option maxRecDepth 100000 in
set_option maxHeartbeats 4000000 in
theorem chg12_ok (base X g cap : Nat) (sl : Nat → Sl) (t : FT) (r : Rq) (vd va : Value) (n : Nat) (w : World) (h : XO w base X g cap sl t r vd va) (hn : n < t.length) (ok : RqOk r) (hk : r.k = 12) (hs : (setF (ino t n).xs r.a).1 = 0) :
    Calls Tryz.prog 130 #[.pointer (some ⟨g, n * 8, none⟩), rqV r vd va] w fun e w' => e = .returned (.int .i64 (chgF (ino t n) r).1) ∧ MutP base X r vd va (chI t n (fun x => (chgF x r).2)) w w' := by
  have H := Lib.hid h
  have hrq := h.rq.more h.base.1
  obtain ⟨⟨da, dc, rfl, hdc, hdl, _⟩, ⟨aa, ac, rfl, hac, hal, _, _⟩, _, _, _, _, _, _, _⟩ := id hrq
  have hg := h.ot.lt.2
  have hcn := h.ot.c n hn
  have OK := Lib.hid ok
  have HN := Lib.hid hn
  have B0 := Lib.hid (show ∀ o : Obj, Below w.heap.size w (w.alloc o) from fun o => (Below.refl _ _).alloc (Nat.le_refl _) o)
  have R0 := Lib.hid (RqB.new w r.k r.u r.p r.t r.off r.sz (.slice da r.d.length dc) (.slice aa r.ac.length ac) r.a.n r.a.v 30)
  have c5 := hcn 5 _ rfl
  have fx := h.ot.fit n hn
  have hax := ats_own (h.ot.r n hn).x fx.xs (by have := fx.lx; omega)
  obtain ⟨xa, xc, hsx⟩ := own_slice (h.ot.r n hn).x
  rw [hsx] at c5 hax
  have CX := Lib.hid (fun (Z : World) (hZ : Below w.heap.size w Z) => set_any (.slice xa (ino t n).xs.length xc) (ino t n).xs r.a.n r.a.v Z (hax.up hZ) hrq.a)
  have HP := Lib.hid (show ∀ (z : World) (v' : Value), Below w.heap.size w z → z.ownsRow base 28 2 v' (setO (ino t n).xs r.a).length (flatA (setO (ino t n).xs r.a)) → MutP base X r (.slice da r.d.length dc) (.slice aa r.ac.length ac) (chI t n (fun x => (chgF x r).2)) w (z.setCell ⟨g, n * 8 + 5, none⟩ v') from fun z v' hz ho =>
    h.field hz hn (by omega) _ { ino t n with xs := setO (ino t n).xs r.a } { sl n with x := v' } rfl ⟨((h.ot.r n hn).up hz).e, ((h.ot.r n hn).up hz).d, ((h.ot.r n hn).up hz).a, ho⟩ ⟨fx.k, fx.o, fx.q, fx.v, fx.es, fx.ac, setO_fits fx.xs hrq.a, fx.le, fx.ld, fx.la, setO_len hs⟩ rfl _ (by simp [chgF, hk, hs]))
  have HC := Lib.hid (show (chgF (ino t n) r).1 = 0 by simp [chgF, hk, hs])
  have CI5 := Lib.hid (fun (z : World) (hz : Below w.heap.size w z) => (hz.cell (p := ⟨g, n * 8 + 5, none⟩) hg).trans c5)
  have F5 := Lib.hid (fun (z : World) (hz : Below w.heap.size w z) => ((h.up hz).ot.frozen (n * 8 + 5)))
  have HBS := Lib.hid h.base.1
  unfold SetFPost at CX
  have HS := Lib.hid hs
  clear h hrq hcn ok fx hn hax hsx hs
  generalize chgF (ino t n) r = C at *
  unfold rqV
  generalize r.d.length = n1 at *
  generalize r.ac.length = n2 at *
  generalize setF (ino t n).xs r.a = sf at *
  generalize setO (ino t n).xs r.a = so at *
  obtain ⟨sc, si⟩ := sf
  have hsc := HS.out
  simp only at hsc
  subst hsc
  simp only [faultV] at CX
  clear HS
  generalize (ino t n).xs.length = n3 at *
  rw [hk] at R0 ⊢
  have c5' := CI5.out _ (B0.out (.cells #[.int .i64 12, .int .i64 r.u, .string r.p, .string r.t, .int .i64 r.off, .int .i64 r.sz, .slice da n1 dc, .slice aa n2 ac, .string r.a.n, .string r.a.v] 30))
  have b0' := Lib.hid (B0.out (.cells #[.int .i64 12, .int .i64 r.u, .string r.p, .string r.t, .int .i64 r.off, .int .i64 r.sz, .slice da n1 dc, .slice aa n2 ac, .string r.a.n, .string r.a.v] 30))
  go_enter Tryz.func130, Tryz.ntmps130
  go_upto_region 15 with fail
  generalize w.alloc (.cells #[.int .i64 12, .int .i64 r.u, .string r.p, .string r.t, .int .i64 r.off, .int .i64 r.sz, .slice da n1 dc, .slice aa n2 ac, .string r.a.n, .string r.a.v] 30) = w1 at *
  go_cut [6, 7] from 56 to 73 (fun s6 s7 wx => ∃ (u1 : Option Addr) (u2 A : Nat), s6 = .slice u1 so.length u2 ∧ s7 = .pointer (some ⟨A, 0, none⟩) ∧ FBox wx A 0 si ∧ Below w1.heap.size w1 wx ∧ wx.ownsRow base 28 2 (.slice u1 so.length u2) so.length (flatA so))
  case first =>
    obtain ⟨q0, q1, q2, q3, q4, q5, q6, q7, q8, q9, q10⟩ := R0.out
    have hg1 : g < w1.heap.size := Nat.lt_of_lt_of_le hg b0'.out.size
    have HB1 := Lib.hid ((Below.refl w1.heap.size w1).drew)
    have HB2 := Lib.hid ((Below.refl w1.heap.size w1).alloc (Nat.le_refl _) (.cells #[.int .i64 0, .int .i64 0] 37)).drew
    have HF2 := Lib.hid ((FBox.new w1 0 0 37).below (Below.refl _ _).drew (FBox.new w1 0 0 37).lt)
    go_region_with (go_at_call 121; (first
      | (refine (CX.out _ (b0'.out.trans (HB1.out.mono b0'.out.size))).mono ?_; rintro e z ⟨v', rfl, ⟨_, ho⟩, hb9⟩; obtain ⟨u1, u2, rfl⟩ := own_slice ho)
      | (refine (CX.out _ (b0'.out.trans (HB2.out.mono b0'.out.size))).mono ?_; rintro e z ⟨v', rfl, ⟨_, ho⟩, hb9⟩; obtain ⟨u1, u2, rfl⟩ := own_slice ho; obtain ⟨lz, z0, z1, zf0, zf1⟩ := HF2.out.below hb9 HF2.out.lt)))
    all_goals
      go_wp2_with fail
      go_meet
      first
        | (refine ⟨u1, u2, z.heap.size, rfl, rfl, FBox.new z 0 si 37, (HB1.out.trans hb9).alloc hb9.size _, ?_⟩; exact own_kept (row := none) (own_lower ho (Nat.le_trans HBS.out b0'.out.size)) (grown_alloc ⟨rfl, rfl, rfl, Nat.le_refl _, fun _ _ _ => rfl⟩ _) (fun g e => by cases e))
        | exact ⟨u1, u2, w1.heap.size, rfl, rfl, FBox.put ⟨lz, z0, z1, zf0, zf1⟩ 0 si, ((HB2.out.trans (hb9.mono HB2.out.size)).setCell (Nat.le_refl _) _).setCell (Nat.le_refl _) _, own_lower (ownsRow_setCell_below (ownsRow_setCell_below ho (by simp) _) (by simp) _) (Nat.le_trans HBS.out (Nat.le_trans b0'.out.size HB2.out.size))⟩
  case rest =>
    obtain ⟨u1, u2, A, rfl, rfl, FA, bx, ho⟩ := hcut
    obtain ⟨w3, rfl⟩ : ∃ w3 : World, w3 = wc := ⟨_, rfl⟩
    have b3 := Lib.hid (b0'.out.trans (bx.mono b0'.out.size))
    have i5 := CI5.out _ b3.out
    have f5 := F5.out _ b3.out
    have hg3 := Nat.lt_of_lt_of_le hg b3.out.size
    have HO := Lib.hid ho
    obtain ⟨lA, A0, A1, Af0, Af1⟩ := FA
    clear ho bx
    go_wp2
    go_ret
    exact ⟨ret_int HC.out.symm, HP.out _ _ b3.out HO.out⟩

set_option maxRecDepth 100000 in
set_option maxHeartbeats 4000000 in
theorem chg12_no (base X g cap : Nat) (sl : Nat → Sl) (t : FT) (r : Rq) (vd va : Value) (n : Nat) (w : World) (h : XO w base X g cap sl t r vd va) (hn : n < t.length) (ok : RqOk r) (hk : r.k = 12) (hs : (setF (ino t n).xs r.a).1 ≠ 0) :
    Calls Tryz.prog 130 #[.pointer (some ⟨g, n * 8, none⟩), rqV r vd va] w fun e w' => e = .returned (.int .i64 (chgF (ino t n) r).1) ∧ MutP base X r vd va (chI t n (fun x => (chgF x r).2)) w w' := by
  have H := Lib.hid h
  have hrq := h.rq.more h.base.1
  obtain ⟨⟨da, dc, rfl, hdc, hdl, _⟩, ⟨aa, ac, rfl, hac, hal, _, _⟩, _, _, _, _, _, _, _⟩ := id hrq
  have hg := h.ot.lt.2
  have hcn := h.ot.c n hn
  have OK := Lib.hid ok
  have HN := Lib.hid hn
  have B0 := Lib.hid (show ∀ o : Obj, Below w.heap.size w (w.alloc o) from fun o => (Below.refl _ _).alloc (Nat.le_refl _) o)
  have R0 := Lib.hid (RqB.new w r.k r.u r.p r.t r.off r.sz (.slice da r.d.length dc) (.slice aa r.ac.length ac) r.a.n r.a.v 30)
  have c5 := hcn 5 _ rfl
  have fx := h.ot.fit n hn
  have hax := ats_own (h.ot.r n hn).x fx.xs (by have := fx.lx; omega)
  obtain ⟨xa, xc, hsx⟩ := own_slice (h.ot.r n hn).x
  rw [hsx] at c5 hax
  have CX := Lib.hid (fun (Z : World) (hZ : Below w.heap.size w Z) => set_any (.slice xa (ino t n).xs.length xc) (ino t n).xs r.a.n r.a.v Z (hax.up hZ) hrq.a)
  have HP := Lib.hid (show ∀ (z : World) (v' : Value), Below w.heap.size w z → z.ownsRow base 28 2 v' (setO (ino t n).xs r.a).length (flatA (setO (ino t n).xs r.a)) → MutP base X r (.slice da r.d.length dc) (.slice aa r.ac.length ac) (chI t n (fun x => (chgF x r).2)) w z from fun z v' hz ho => by
    rw [chI_self t n hn _ (by simp [chgF, hk, hs])]; exact MutP.same h hz)
  have HC := Lib.hid (show (chgF (ino t n) r).1 = 2 by simp [chgF, hk, hs])
  have CI5 := Lib.hid (fun (z : World) (hz : Below w.heap.size w z) => (hz.cell (p := ⟨g, n * 8 + 5, none⟩) hg).trans c5)
  have F5 := Lib.hid (fun (z : World) (hz : Below w.heap.size w z) => ((h.up hz).ot.frozen (n * 8 + 5)))
  have HBS := Lib.hid h.base.1
  unfold SetFPost at CX
  have HS := Lib.hid hs
  clear h hrq hcn ok fx hn hax hsx hs
  generalize chgF (ino t n) r = C at *
  unfold rqV
  generalize r.d.length = n1 at *
  generalize r.ac.length = n2 at *
  generalize setF (ino t n).xs r.a = sf at *
  generalize setO (ino t n).xs r.a = so at *
  obtain ⟨sc, si⟩ := sf
  have hsc := HS.out
  simp only at hsc
  simp only [faultV] at CX
  clear HS
  generalize (ino t n).xs.length = n3 at *
  rw [hk] at R0 ⊢
  have c5' := CI5.out _ (B0.out (.cells #[.int .i64 12, .int .i64 r.u, .string r.p, .string r.t, .int .i64 r.off, .int .i64 r.sz, .slice da n1 dc, .slice aa n2 ac, .string r.a.n, .string r.a.v] 30))
  have b0' := Lib.hid (B0.out (.cells #[.int .i64 12, .int .i64 r.u, .string r.p, .string r.t, .int .i64 r.off, .int .i64 r.sz, .slice da n1 dc, .slice aa n2 ac, .string r.a.n, .string r.a.v] 30))
  go_enter Tryz.func130, Tryz.ntmps130
  go_upto_region 15 with fail
  generalize w.alloc (.cells #[.int .i64 12, .int .i64 r.u, .string r.p, .string r.t, .int .i64 r.off, .int .i64 r.sz, .slice da n1 dc, .slice aa n2 ac, .string r.a.n, .string r.a.v] 30) = w1 at *
  go_cut [6, 7] from 56 to 73 (fun s6 s7 wx => ∃ (u1 : Option Addr) (u2 A : Nat), s6 = .slice u1 so.length u2 ∧ s7 = .pointer (some ⟨A, 0, none⟩) ∧ FBox wx A sc si ∧ Below w1.heap.size w1 wx ∧ wx.ownsRow base 28 2 (.slice u1 so.length u2) so.length (flatA so))
  case first =>
    obtain ⟨q0, q1, q2, q3, q4, q5, q6, q7, q8, q9, q10⟩ := R0.out
    have hg1 : g < w1.heap.size := Nat.lt_of_lt_of_le hg b0'.out.size
    have HB1 := Lib.hid ((Below.refl w1.heap.size w1).drew)
    have HB2 := Lib.hid ((Below.refl w1.heap.size w1).alloc (Nat.le_refl _) (.cells #[.int .i64 0, .int .i64 0] 37)).drew
    have HF2 := Lib.hid ((FBox.new w1 0 0 37).below (Below.refl _ _).drew (FBox.new w1 0 0 37).lt)
    go_region_with (go_at_call 121; (first
      | (refine (CX.out _ (b0'.out.trans (HB1.out.mono b0'.out.size))).mono ?_; rintro e z ⟨v', rfl, ⟨_, ho⟩, hb9⟩; obtain ⟨u1, u2, rfl⟩ := own_slice ho)
      | (refine (CX.out _ (b0'.out.trans (HB2.out.mono b0'.out.size))).mono ?_; rintro e z ⟨v', rfl, ⟨_, ho⟩, hb9⟩; obtain ⟨u1, u2, rfl⟩ := own_slice ho; obtain ⟨lz, z0, z1, zf0, zf1⟩ := HF2.out.below hb9 HF2.out.lt)))
    all_goals
      go_wp2_with fail
      go_meet
      first
        | (refine ⟨u1, u2, z.heap.size, rfl, rfl, FBox.new z sc si 37, (HB1.out.trans hb9).alloc hb9.size _, ?_⟩; exact own_kept (row := none) (own_lower ho (Nat.le_trans HBS.out b0'.out.size)) (grown_alloc ⟨rfl, rfl, rfl, Nat.le_refl _, fun _ _ _ => rfl⟩ _) (fun g e => by cases e))
        | exact ⟨u1, u2, w1.heap.size, rfl, rfl, FBox.put ⟨lz, z0, z1, zf0, zf1⟩ sc si, ((HB2.out.trans (hb9.mono HB2.out.size)).setCell (Nat.le_refl _) _).setCell (Nat.le_refl _) _, own_lower (ownsRow_setCell_below (ownsRow_setCell_below ho (by simp) _) (by simp) _) (Nat.le_trans HBS.out (Nat.le_trans b0'.out.size HB2.out.size))⟩
  case rest =>
    obtain ⟨u1, u2, A, rfl, rfl, FA, bx, ho⟩ := hcut
    obtain ⟨w3, rfl⟩ : ∃ w3 : World, w3 = wc := ⟨_, rfl⟩
    have b3 := Lib.hid (b0'.out.trans (bx.mono b0'.out.size))
    have i5 := CI5.out _ b3.out
    have f5 := F5.out _ b3.out
    have hg3 := Nat.lt_of_lt_of_le hg b3.out.size
    have HO := Lib.hid ho
    obtain ⟨lA, A0, A1, Af0, Af1⟩ := FA
    clear ho bx
    go_wp2
    go_ret
    exact ⟨ret_int HC.out.symm, HP.out _ _ b3.out HO.out⟩

end Go.Proofs.YtmbbmmnpkdfecaaGreatDoor
