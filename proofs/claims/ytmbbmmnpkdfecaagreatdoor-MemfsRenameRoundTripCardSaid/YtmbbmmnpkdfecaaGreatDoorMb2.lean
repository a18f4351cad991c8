/- Package memfs and what it calls, at this seat's translation.
   Condition: as each theorem states; this text: AclRow, AclAllowed, AclRefAllowed, AclUserFault. -/
import Derived.Test.YtmbbmmnpkdfecaaGreatDoorMb1
import Derived.ProofKit
import Derived.SizedLaws
import Derived.Deep.Slices
import Derived.Deep.Fields
import Derived.ChangeSame

set_option linter.all false

/- What an argument of type []api.ACLEntry reads as: a list of entries. No condition: every such slice, nil too. -/

set_option linter.all false
namespace Go.Proofs.YtmbbmmnpkdfecaaGreatDoor
open Go.ChangeShapes Go.WideShapes Go.ChangeAt Go.RowKit Go.Deep

theorem ent_under : Tryz.prog.underlying 108 = some (.struct (Tryz.prog.fieldsOf 108)) := by kernel_rfl
theorem ent_fields : (Tryz.prog.fieldsOf 108).map (fun f => (f.type, f.offset)) = #[(3, 0), (3, 1), (3, 2)] := by kernel_rfl
theorem int_cells : Tryz.prog.cellsOf 3 = 1 := by kernel_rfl
theorem ent_cells : Tryz.prog.cellsOf 108 = 3 := by kernel_rfl
theorem ent_bytes : Tryz.prog.bytesOf 108 = 24 := by kernel_rfl
theorem ent_field (j : Nat) (hj : j < 3) : ∃ f, (Tryz.prog.fieldsOf 108)[j]? = some f ∧ f.type = 3 ∧ f.offset = j := by
  have hsz : (Tryz.prog.fieldsOf 108).size = 3 := by
    have := congrArg Array.size ent_fields
    simpa using this
  have h1 : (Tryz.prog.fieldsOf 108)[j]? = some ((Tryz.prog.fieldsOf 108)[j]'(by omega)) := Array.getElem?_eq_getElem (by omega)
  refine ⟨_, h1, ?_⟩
  have h2 := congrArg (fun z => z[j]?) ent_fields
  have h3 : ∀ j, j < 3 → (#[(3, 0), (3, 1), (3, 2)] : Array (TypeId × Nat))[j]? = some (3, j) := by
    intro j hj
    match j, hj with
    | 0, _ => rfl
    | 1, _ => rfl
    | 2, _ => rfl
  simp only [Array.getElem?_map, h1, Option.map_some] at h2
  rw [h3 j hj] at h2
  injection h2 with h2
  injection h2 with h4 h5
  exact ⟨h4, h5⟩

theorem wf_int {n : Int} (hw : (Lit.int .i64 n).wf = true) : i64 n := by
  simp only [Lit.wf, Bool.and_eq_true, decide_eq_true_eq] at hw
  have e1 : IntKind.i64.min = -9223372036854775808 := by decide
  have e2 : IntKind.i64.max = 9223372036854775807 := by decide
  unfold i64; omega
theorem wf_u8 {n : Int} (hw : (Lit.int .u8 n).wf = true) : 0 ≤ n ∧ n ≤ 255 := by
  simp only [Lit.wf, Bool.and_eq_true, decide_eq_true_eq] at hw
  have e1 : IntKind.u8.min = 0 := by decide
  have e2 : IntKind.u8.max = 255 := by decide
  omega


theorem three_of {cs : List Value} (h : cs.length = 3) : ∃ c0 c1 c2, cs = [c0, c1, c2] := by
  match cs, h with
  | [c0, c1, c2], _ => exact ⟨c0, c1, c2, rfl⟩
/-- Three cells that read as an entry are three integers in int64's range. -/
theorem ent_of {H : Type} {enc : TypeId × Value → H} {w : World} {base : Nat} {spare : Nat → Bool} {held : Bool} {n : Nat} {cs : List Value} {y : DataW H × List MemPlace}
    (h : DataW.trod enc Tryz.prog w base spare held n 108 cs = some y) : ∃ u a d, cs = [.int .i64 u, .int .i64 a, .int .i64 d] ∧ i64 u ∧ i64 a ∧ i64 d := by
  obtain ⟨xs, n', _, _, hlen, hxl, hf⟩ := DataW.trod_struct ent_under h
  rw [ent_cells] at hlen
  have one : ∀ j, j < 3 → ∃ q, (cs.drop j).take 1 = [.int .i64 q] ∧ i64 q := by
    intro j hj
    obtain ⟨f, h1, h2, h3⟩ := ent_field j hj
    have h4 := hf j f h1
    rw [h2, h3, int_cells] at h4
    have hjx : j < xs.length := by
      rw [hxl]
      exact (Array.getElem?_eq_some_iff.1 h1).1
    rw [List.getElem?_eq_getElem hjx] at h4
    obtain ⟨q, h5, _, h6⟩ := DataW.trod_int Tryz.underlying3 h4
    exact ⟨q, h5, wf_int h6⟩
  obtain ⟨c0, c1, c2, rfl⟩ := three_of hlen
  obtain ⟨u, hu, fu⟩ := one 0 (by omega)
  obtain ⟨a, ha, fa⟩ := one 1 (by omega)
  obtain ⟨d, hd, fd⟩ := one 2 (by omega)
  simp at hu ha hd
  exact ⟨u, a, d, by rw [hu, ha, hd], fu, fa, fd⟩

set_option maxRecDepth 100000 in
theorem acls_of {H : Type} {enc : TypeId × Value → H} {W : World} {fuel : Nat} {a : Option Addr} {len cap : Nat} {x : DataW H × List MemPlace}
    (hf : DataW.trod enc Tryz.prog W 0 (fun _ => true) true fuel 26 [.slice a len cap] = some x)
    (hreach : ∀ elems spare, x.1 = .slice elems spare → (elems.length + spare.length) * 24 ≤ 140737488351232) : ∃ xs, Acls W W.heap.size (.slice a len cap) xs ∧ xs.length ≤ 5864062014634 := by
  rcases open_slice Tryz.underlying26 hf with ⟨hcs, hx⟩ | ⟨ad, len', cap', m, n, D, Pl, hcs, _, hl, hm, hmm, hx, hi⟩
  · simp at hcs
    obtain ⟨rfl, rfl, rfl⟩ := hcs
    exact ⟨[], Acls.none_ _ _, by simp⟩
  · simp at hcs
    obtain ⟨rfl, rfl, rfl⟩ := hcs
    simp only [if_true] at hmm
    have hr := hreach _ _ (by rw [hx])
    simp only [List.length_map, List.length_range] at hr
    have key : ∀ i, i < len → ∀ j, j < 3 → ∃ n, W.cell? (ad.add (i * 3 + j)) = some (.int .i64 n) ∧ i64 n := by
      intro i hil j hj
      obtain ⟨cs, hc, ht⟩ := hi i (by omega)
      rw [ent_cells] at hc
      obtain ⟨u, a, d, rfl, fu, fa, fd⟩ := ent_of ht
      obtain ⟨_, _, hat⟩ := World.cells?_some hc
      have h1 := hat j hj
      rw [Go.Deep.add_add] at h1
      match j, hj with
      | 0, _ => exact ⟨u, h1, fu⟩
      | 1, _ => exact ⟨a, h1, fa⟩
      | 2, _ => exact ⟨d, h1, fd⟩
    refine ⟨(List.range len).map (fun i => ⟨intOf ((W.cell? (ad.add (i * 3 + 0))).getD undef), intOf ((W.cell? (ad.add (i * 3 + 1))).getD undef), intOf ((W.cell? (ad.add (i * 3 + 2))).getD undef)⟩), ⟨some ad, cap, by simp, by simp; omega, by simp; omega, ?_, ?_⟩, by simp; omega⟩
    · intro e he
      obtain ⟨i, hil, rfl⟩ := List.mem_map.1 he
      have hil := List.mem_range.1 hil
      obtain ⟨n0, h0, f0⟩ := key i hil 0 (by omega)
      obtain ⟨n1, h1, f1⟩ := key i hil 1 (by omega)
      obtain ⟨n2, h2, f2⟩ := key i hil 2 (by omega)
      rw [h0, h1, h2]
      exact ⟨f0, f1, f2⟩
    · intro hp0
      have hp : 0 < len := by simpa using hp0
      clear hp0
      obtain ⟨b, off, spot⟩ := ad
      obtain ⟨n0, hc0, _⟩ := key 0 hp 0 (by omega)
      have hspot : spot = none := by simpa [Addr.add] using World.cell?_spot hc0
      subst hspot
      have hlt : b < W.heap.size := by have := cell_lt hc0; simpa [Addr.add] using this
      refine ⟨b, off, rfl, hlt, fun j hj => ?_⟩
      have hj : j < len := by simpa using hj
      have hg : ∀ g : Nat → Ent, ((List.range len).map g).getD j E0 = g j := fun g => by
        rw [List.getD_eq_getElem?_getD, List.getElem?_eq_getElem (by simpa using hj)]; simp
      rw [hg]
      obtain ⟨n0, h0, _⟩ := key j hj 0 (by omega)
      obtain ⟨n1, h1, _⟩ := key j hj 1 (by omega)
      obtain ⟨n2, h2, _⟩ := key j hj 2 (by omega)
      rw [h0, h1, h2]
      rw [add_plain] at h0 h1 h2
      exact ⟨h0, h1, h2⟩

end Go.Proofs.YtmbbmmnpkdfecaaGreatDoor

/- isPermission, acl.Allowed and the law's userFault at every list and all numbers: the value and the fault. Conditions: the slice's cells lie in memory as they read. -/

set_option linter.all false
namespace Go.Proofs.YtmbbmmnpkdfecaaGreatDoor
open Go.RowKit

/-- Exactly one permission. -/
def prm (m : Int) : Bool := decide (m = 1 ∨ m = 2 ∨ m = 4 ∨ m = 8)
theorem prm_of {b : Bool} {m : Int} (h : b = true ↔ (m = 1 ∨ m = 2 ∨ m = 4 ∨ m = 8)) : b = prm m := by
  unfold prm; rw [Bool.eq_iff_iff, h, decide_eq_true_iff]

set_option maxHeartbeats 400000 in
theorem isPerm_any (m : Int) (w : World) :
    Calls Tryz.prog 186 #[.int .i64 m] w fun e w' => e = .returned (.bool (prm m)) ∧ w = w' := by
  go_enter Tryz.func186, Tryz.ntmps186
  go_wp2
  all_goals
    go_ret
    refine ⟨ret_bool (prm_of ?_), rfl⟩
    simp_all

/-- The fault of a list with two users. -/
def usrF (xs : List Ent) (o x : Int) : Int × Int := if (valF xs).1 = 0 ∧ (usr o && usr x) = false then (3, -1) else valF xs
def allC (xs : List Ent) (o x m : Int) : Int × Int := if (usrF xs o x).1 = 0 ∧ prm m = false then (3, -1) else usrF xs o x
def allB (xs : List Ent) (o x m : Int) : Bool := decide ((allC xs o x m).1 = 0) && dec xs o x m
def allV (xs : List Ent) (o x m : Int) : Value := .tuple #[.bool (allB xs o x m), .agg #[.int .i64 (allC xs o x m).1, .int .i64 (allC xs o x m).2]]

theorem scan_zero : ∀ (l : List Ent) (i : Nat), (scanF l i).1 = 0 → scanF l i = (0, 0)
  | [], _, _ => rfl
  | e :: l, i, h => by
    unfold scanF at h ⊢
    by_cases h0 : codeE e = 0
    · rw [if_pos h0] at h ⊢; exact scan_zero l _ h
    · rw [if_neg h0] at h; exact absurd h h0
theorem valF_zero {xs : List Ent} (h : (valF xs).1 = 0) : valF xs = (0, 0) := by
  unfold valF at h ⊢
  by_cases h6 : 6 < xs.length
  · rw [if_pos h6] at h; cases h
  · rw [if_neg h6] at h ⊢; exact scan_zero _ _ h
theorem allV_val {xs : List Ent} {o x m c i : Int} (h : valF xs = (c, i)) (hc : ¬ c = 0) : allV xs o x m = .tuple #[.bool false, .agg #[.int .i64 c, .int .i64 i]] := by
  have h1 : usrF xs o x = (c, i) := by unfold usrF; rw [h, if_neg (fun k => hc k.1)]
  have h2 : allC xs o x m = (c, i) := by unfold allC; rw [h1, if_neg (fun k => hc k.1)]
  unfold allV allB; rw [h2]; simp [hc]
theorem allV_usr {xs : List Ent} {o x m : Int} (h : valF xs = (0, 0)) (hu : (usr o && usr x) = false) : allV xs o x m = .tuple #[.bool false, .agg #[.int .i64 3, .int .i64 (-1)]] := by
  have h1 : usrF xs o x = (3, -1) := by unfold usrF; rw [h, if_pos ⟨rfl, hu⟩]
  have h2 : allC xs o x m = (3, -1) := by unfold allC; rw [h1, if_neg (fun k => by cases k.1)]
  unfold allV allB; rw [h2]; simp
theorem allV_prm {xs : List Ent} {o x m : Int} (h : valF xs = (0, 0)) (hu : (usr o && usr x) = true) (hp : prm m = false) : allV xs o x m = .tuple #[.bool false, .agg #[.int .i64 3, .int .i64 (-1)]] := by
  have h1 : usrF xs o x = (0, 0) := by unfold usrF; rw [h, if_neg (fun k => by rw [hu] at k; cases k.2)]
  have h2 : allC xs o x m = (3, -1) := by unfold allC; rw [h1, if_pos ⟨rfl, hp⟩]
  unfold allV allB; rw [h2]; simp
theorem allV_ok {xs : List Ent} {o x m : Int} (h : valF xs = (0, 0)) (hu : (usr o && usr x) = true) (hp : prm m = true) : allV xs o x m = .tuple #[.bool (dec xs o x m), .agg #[.int .i64 0, .int .i64 0]] := by
  have h1 : usrF xs o x = (0, 0) := by unfold usrF; rw [h, if_neg (fun k => by rw [hu] at k; cases k.2)]
  have h2 : allC xs o x m = (0, 0) := by unfold allC; rw [h1, if_neg (fun k => by rw [hp] at k; cases k.2)]
  unfold allV allB; rw [h2]; simp
theorem valV_pair {xs : List Ent} {c i : Int} (h : valF xs = (c, i)) : valV xs = .agg #[.int .i64 c, .int .i64 i] := by unfold valV faultV; rw [h]

theorem users2_any (o x : Int) (b : Bool) (hb : (usr o && usr x) = b) (w : World) (n : Nat) (t : TypeId) (hn : n = w.heap.size) :
    Calls Tryz.prog 175 #[.slice (some ⟨n, 0, none⟩) 2 2] (w.alloc (.cells #[.int .i64 o, .int .i64 x] t)) fun e w' => e = .returned (.bool b) ∧ w.alloc (.cells #[.int .i64 o, .int .i64 x] t) = w' := by
  have h := areUsers_any _ [o, x] _ _ (ints_two w n hn o x t)
  have e1 : [o, x].all usr = b := by rw [← hb]; simp
  rw [e1] at h
  exact h
theorem users1c_any (o : Int) (b : Bool) (hb : usr o = b) (w : World) (n : Nat) (t : TypeId) (hn : n = w.heap.size) :
    Calls Tryz.prog 175 #[.slice (some ⟨n, 0, none⟩) 1 1] (w.alloc (.cells #[.int .i64 o] t)) fun e w' => e = .returned (.bool b) ∧ w.alloc (.cells #[.int .i64 o] t) = w' := by
  have h := areUsers_any _ [o] _ _ (ints_one w n hn o t)
  have e1 : [o].all usr = b := by rw [← hb]; simp
  rw [e1] at h
  exact h

set_option maxHeartbeats 1000000 in
theorem allowed_any (v : Value) (xs : List Ent) (o x m : Int) (w : World) (h : Acls w w.heap.size v xs) :
    Calls Tryz.prog 162 #[v, .int .i64 o, .int .i64 x, .int .i64 m] w fun e w' => e = .returned (allV xs o x m) ∧ Below w.heap.size w w' := by
  have c1 := fun W (hb : Below w.heap.size w W) => validate_any v xs W ((h.below hb).more hb.size)
  have c2 := fun W (hb : Below w.heap.size w W) => decide_any v xs o x m W ((h.below hb).more hb.size)
  have C2 := Lib.hid c2
  clear c2
  generalize hv : valF xs = p
  obtain ⟨c, i⟩ := p
  rw [valV_pair hv] at c1
  have C1 := Lib.hid c1
  clear c1 h
  by_cases hc : c = 0
  · subst hc
    have hv0 := valF_zero (xs := xs) (by rw [hv])
    obtain rfl : i = 0 := by rw [hv] at hv0; injection hv0
    clear hv0
    have HVV := Lib.hid hv
    clear hv
    cases hu : usr o && usr x with
    | false =>
      have HV := Lib.hid (allV_usr (m := m) HVV.out hu)
      have HU := Lib.hid hu
      clear hu
      go_enter Tryz.func162, Tryz.ntmps162
      go_wp2_with fail
      refine (C1.out _ ((Below.refl _ _).alloc (Nat.le_refl _) _)).mono ?_
      rintro e w1 ⟨rfl, b1⟩
      have B1 : Below w.heap.size w w1 := ((Below.refl _ _).alloc (Nat.le_refl _) _).trans (b1.mono (by simp))
      have X1 := Lib.hid ((FBox.new w 0 0 37).below b1 (by simp))
      clear b1
      go_wp2_with fail
      refine (users2_any o x false HU.out _ _ _ (by simp)).mono ?_
      rintro e w' ⟨rfl, rfl⟩
      obtain ⟨l1, a0, a1, k0, k1⟩ := ((X1.out.alloc (.cells #[.int .i64 0, .int .i64 0] 37)).alloc (.cells #[.int .i64 o, .int .i64 x] 3))
      go_wp2
      refine bodyPost_ret (v := .tuple #[.bool false, .agg #[.int .i64 3, .int .i64 (-1)]]) (by simp [results, Tryz.results162, go_sem, a0, a1]) rfl ⟨by rw [HV.out], ?_⟩
      have := B1.size
      repeat (first | exact B1 | refine Below.setCell ?_ (by first | omega | (simp; done) | (simp; omega)) _ | refine Below.alloc ?_ (by first | omega | (simp; done) | (simp; omega)) _ | refine Below.drew ?_)
    | true => 
      have HU := Lib.hid hu
      clear hu
      cases hp : prm m with
      | false =>
        have HV := Lib.hid (allV_prm (m := m) HVV.out HU.out hp)
        have c4 := fun W => isPerm_any m W
        rw [hp] at c4
        clear hp
        go_enter Tryz.func162, Tryz.ntmps162
        go_wp2_with fail
        refine (C1.out _ ((Below.refl _ _).alloc (Nat.le_refl _) _)).mono ?_
        rintro e w1 ⟨rfl, b1⟩
        have B1 : Below w.heap.size w w1 := ((Below.refl _ _).alloc (Nat.le_refl _) _).trans (b1.mono (by simp))
        have X1 := Lib.hid ((FBox.new w 0 0 37).below b1 (by simp))
        clear b1
        go_wp2_with fail
        refine (users2_any o x true HU.out _ _ _ (by simp)).mono ?_
        rintro e w' ⟨rfl, rfl⟩
        go_wp2_with fail
        refine (c4 _).mono ?_
        rintro e w' ⟨rfl, rfl⟩
        obtain ⟨l1, a0, a1, k0, k1⟩ := ((X1.out.alloc (.cells #[.int .i64 0, .int .i64 0] 37)).alloc (.cells #[.int .i64 o, .int .i64 x] 3))
        go_wp2
        refine bodyPost_ret (v := .tuple #[.bool false, .agg #[.int .i64 3, .int .i64 (-1)]]) (by simp [results, Tryz.results162, go_sem, a0, a1]) rfl ⟨by rw [HV.out], ?_⟩
        have := B1.size
        repeat (first | exact B1 | refine Below.setCell ?_ (by first | omega | (simp; done) | (simp; omega)) _ | refine Below.alloc ?_ (by first | omega | (simp; done) | (simp; omega)) _ | refine Below.drew ?_)
      | true =>
        have HV := Lib.hid (allV_ok (m := m) HVV.out HU.out hp)
        have c4 := fun W => isPerm_any m W
        rw [hp] at c4
        clear hp
        go_enter Tryz.func162, Tryz.ntmps162
        go_wp2_with fail
        refine (C1.out _ ((Below.refl _ _).alloc (Nat.le_refl _) _)).mono ?_
        rintro e w1 ⟨rfl, b1⟩
        have B1 : Below w.heap.size w w1 := ((Below.refl _ _).alloc (Nat.le_refl _) _).trans (b1.mono (by simp))
        have X1 := Lib.hid ((FBox.new w 0 0 37).below b1 (by simp))
        clear b1
        go_wp2_with fail
        refine (users2_any o x true HU.out _ _ _ (by simp)).mono ?_
        rintro e w' ⟨rfl, rfl⟩
        go_wp2_with fail
        refine (c4 _).mono ?_
        rintro e w' ⟨rfl, rfl⟩
        go_wp2_with fail
        refine (C2.out _ ((B1.alloc B1.size _).alloc (by have := B1.size; simp; omega) _)).mono ?_
        rintro e w2 ⟨rfl, b2⟩
        have B2 : Below w.heap.size w w2 := ((B1.alloc B1.size _).alloc (by have := B1.size; simp; omega) _).trans (b2.mono (by have := B1.size; simp; omega))
        have X2 := ((X1.out.alloc (.cells #[.int .i64 0, .int .i64 0] 37)).alloc (.cells #[.int .i64 o, .int .i64 x] 3)).below b2 (by have := X1.out.lt; simp; omega)
        obtain ⟨l1, a0, a1, k0, k1⟩ := X2
        clear b2
        go_wp2
        refine bodyPost_ret (v := .tuple #[.bool (dec xs o x m), .agg #[.int .i64 0, .int .i64 0]]) (by simp [results, Tryz.results162, go_sem, a0, a1]) rfl ⟨by rw [HV.out], ?_⟩
        have := B2.size
        repeat (first | exact B2 | refine Below.setCell ?_ (by first | omega | (simp; done) | (simp; omega)) _ | refine Below.alloc ?_ (by first | omega | (simp; done) | (simp; omega)) _ | refine Below.drew ?_)
  · have HV := Lib.hid (allV_val (o := o) (x := x) (m := m) hv hc)
    have hc1 : (c != 0) = true := by simpa using hc
    have hc2 : (c == 0) = false := by simpa using hc
    clear hv hc
    go_enter Tryz.func162, Tryz.ntmps162
    go_wp2_with fail
    refine (C1.out _ ((Below.refl _ _).alloc (Nat.le_refl _) _)).mono ?_
    rintro e w1 ⟨rfl, b1⟩
    have B1 : Below w.heap.size w w1 := ((Below.refl _ _).alloc (Nat.le_refl _) _).trans (b1.mono (by simp))
    have X1 := ((FBox.new w 0 0 37).below b1 (by simp))
    clear b1
    obtain ⟨l1, a0, a1, k0, k1⟩ := X1
    go_wp2
    go_region
    all_goals
      go_wp2
      refine bodyPost_ret (v := .tuple #[.bool false, .agg #[.int .i64 c, .int .i64 i]]) (by simp [results, Tryz.results162, go_sem, a0, a1, l1]) rfl ⟨by rw [HV.out], ?_⟩
      have := B1.size
      repeat (first | exact B1 | refine Below.setCell ?_ (by first | omega | (simp; done) | (simp; omega)) _ | refine Below.alloc ?_ (by first | omega | (simp; done) | (simp; omega)) _ | refine Below.drew ?_)

end Go.Proofs.YtmbbmmnpkdfecaaGreatDoor

/- The reference's Allowed at every access control list: the entries backwards. Conditions: the slice's cells lie in memory as they read. -/

set_option linter.all false
namespace Go.Proofs.YtmbbmmnpkdfecaaGreatDoor
open Go.RowKit

/-- What one entry does to the answer of those behind it. -/
def stepR (e : Ent) (x m : Int) (r : Bool) : Bool :=
  if e.u ≠ x ∧ e.u ≠ -1 then r else if bits .and .i64 e.d m ≠ 0 then false else if bits .and .i64 e.a m ≠ 0 then true else r
def decRL : List Ent → Int → Int → Int → Bool
  | [], o, x, _ => decide (x = o)
  | e :: l, o, x, m => stepR e x m (decRL l o x m)
def decR (xs : List Ent) (o x m : Int) : Bool := decRL xs o x m || decide (x = 0)
theorem decRL_drop {xs : List Ent} {j : Nat} (h : j < xs.length) (o x m : Int) : decRL (xs.drop j) o x m = stepR (xs.getD j E0) x m (decRL (xs.drop (j + 1)) o x m) := by
  rw [List.drop_eq_getElem_cons h, entD h]; rfl

set_option maxHeartbeats 800000 in
theorem refAllowed_any (v : Value) (xs : List Ent) (o x m : Int) (w : World) (B : Nat) (h : Acls w B v xs) :
    Calls Tryz.prog 140 #[v, .int .i64 o, .int .i64 x, .int .i64 m] w fun e w' => e = .returned (.bool (decR xs o x m)) ∧ w = w' := by
  obtain ⟨a, c, rfl, hc, hl, hf, hx⟩ := h
  clear hf
  go_enter Tryz.func140, Tryz.ntmps140
  go_wp2
  go_loop [9, 10] (fun s9 s10 => ∃ (k : Nat) (i : Int) (r : Bool), k ≤ xs.length ∧ s10 = .int .i64 i ∧ Aside (i + 1 = (k : Int)) ∧ s9 = .bool r ∧ Aside (r = decRL (xs.drop k) o x m)) (fun _ s10 => (intOf s10 + 1).toNat)
  case atStart => exact ⟨xs.length, _, _, Nat.le_refl _, rfl, (show _ + 1 = _ by omega), rfl, (show _ = _ by rw [List.drop_length]; unfold decRL; rw [Bool.eq_iff_iff]; simp)⟩
  case round =>
    obtain ⟨k, i, r, hk, rfl, HI, rfl, R⟩ := hrel
    cases k with
    | zero =>
      obtain rfl : i = -1 := by have := HI.out; omega
      have R2 : Aside (r = decRL xs o x m) := R
      clear R HI hx
      go_wp2
      all_goals
        go_ret
        refine ⟨ret_bool ?_, rfl⟩
        unfold decR
        rw [← R2.out]
        first | (simp [*]; done) | (simp [*]; rfl)
    | succ j =>
      obtain rfl : i = (j : Int) := by have := HI.out; omega
      have hlt : j < xs.length := by omega
      have hltz : (j : Int) < (xs.length : Int) := by omega
      obtain ⟨b, of, rfl, hb, hj⟩ := hx (by omega)
      obtain ⟨g0, g1, g2⟩ := hj j hlt
      have hd := decRL_drop hlt o x m
      rw [← R.out] at hd
      clear hx hj HI R
      generalize xs.getD j E0 = y at g0 g1 g2 hd
      obtain ⟨u, a, d⟩ := y
      have HD := Lib.hid hd
      clear hd
      go_wp2
      all_goals
        go_round
        case rel =>
          refine ⟨j, _, _, by omega, rfl, (show _ + 1 = _ by omega), rfl, (show _ = _ from ?_)⟩
          rw [HD.out]
          unfold stepR
          simp_all
        case measure => first | (simp [intOf]; done) | (simp [intOf]; omega)

end Go.Proofs.YtmbbmmnpkdfecaaGreatDoor

/- The law's userFault at every list and any two numbers; the reference's Allowed agrees with acl.Allowed on valid lists. Conditions: the slice's cells lie in memory as they read. -/

set_option linter.all false
namespace Go.Proofs.YtmbbmmnpkdfecaaGreatDoor
open Go.RowKit

theorem usrF_val {xs : List Ent} {o x c i : Int} (h : valF xs = (c, i)) (hc : ¬ c = 0) : usrF xs o x = (c, i) := by unfold usrF; rw [h, if_neg (fun k => hc k.1)]
theorem usrF_bad {xs : List Ent} {o x : Int} (h : valF xs = (0, 0)) (hb : o < 0 ∨ 7 < o ∨ x < 0 ∨ 7 < x) : usrF xs o x = (3, -1) := by
  unfold usrF; rw [h, if_pos ⟨rfl, by unfold usr; rw [Bool.and_eq_false_iff, decide_eq_false_iff_not, decide_eq_false_iff_not]; omega⟩]
theorem usrF_ok {xs : List Ent} {o x : Int} (h : valF xs = (0, 0)) (hb : ¬ (o < 0 ∨ 7 < o ∨ x < 0 ∨ 7 < x)) : usrF xs o x = (0, 0) := by
  unfold usrF; rw [h, if_neg (fun k => by have := k.2; unfold usr at this; rw [Bool.and_eq_false_iff, decide_eq_false_iff_not, decide_eq_false_iff_not] at this; omega)]

/-! Plain facts: on a valid list and a permission the reference's answer is acl.Allowed's. -/
theorem bit_or : ∀ a d : Fin 16, ∀ k : Fin 4, bits .and .i64 ((a.val : Nat) : Int) ((d.val : Nat) : Int) = 0 →
    ((bits .and .i64 (bits .or .i64 ((a.val : Nat) : Int) ((d.val : Nat) : Int)) ((2 ^ k.val : Nat) : Int) != 0) = ((bits .and .i64 ((a.val : Nat) : Int) ((2 ^ k.val : Nat) : Int) != 0) || (bits .and .i64 ((d.val : Nat) : Int) ((2 ^ k.val : Nat) : Int) != 0)) ∧
     ((bits .and .i64 ((a.val : Nat) : Int) ((2 ^ k.val : Nat) : Int) != 0) && (bits .and .i64 ((d.val : Nat) : Int) ((2 ^ k.val : Nat) : Int) != 0)) = false) := by
  decide +kernel
theorem prm_pow {m : Int} (h : prm m = true) : ∃ k : Fin 4, m = ((2 ^ k.val : Nat) : Int) := by
  unfold prm at h
  rw [decide_eq_true_iff] at h
  rcases h with rfl | rfl | rfl | rfl
  · exact ⟨0, rfl⟩
  · exact ⟨1, rfl⟩
  · exact ⟨2, rfl⟩
  · exact ⟨3, rfl⟩

/-- A valid entry. -/
structure Ok (e : Ent) : Prop where
  u0 : -1 ≤ e.u
  u7 : e.u ≤ 7
  a0 : 0 ≤ e.a
  a15 : e.a ≤ 15
  d0 : 0 ≤ e.d
  d15 : e.d ≤ 15
  dis : bits .and .i64 e.a e.d = 0
  some_ : e.a + e.d ≠ 0
theorem ok_of {e : Ent} (hf : e.fits) (h : codeE e = 0) : Ok e := by
  rw [code_eq hf] at h
  unfold codeR at h
  by_cases h1 : e.u < -1 ∨ 7 < e.u
  · rw [if_pos h1] at h; cases h
  · rw [if_neg h1] at h
    by_cases h2 : e.a < 0 ∨ 15 < e.a ∨ e.d < 0 ∨ 15 < e.d ∨ bits .and .i64 e.a e.d ≠ 0 ∨ e.a + e.d = 0
    · rw [if_pos h2] at h; cases h
    · simp only [not_or, Decidable.not_not] at h1 h2
      obtain ⟨k1, k2, k3, k4, k5, k6⟩ := h2
      exact ⟨by omega, by omega, by omega, by omega, by omega, by omega, k5, k6⟩
theorem ok_code {e : Ent} (hf : e.fits) (h : Ok e) : codeE e = 0 := by
  rw [code_eq hf]
  obtain ⟨h1, h2, h3, h4, h5, h6, h7, h8⟩ := h
  exact codeR_ok (by simp only [not_or]; omega) (by simp only [not_or]; exact ⟨by omega, by omega, by omega, by omega, by simpa using h7, h8⟩)
theorem scan_ok : ∀ (l : List Ent) (i : Nat), (scanF l i).1 = 0 → ∀ e ∈ l, codeE e = 0
  | [], _, _ => by simp
  | e :: l, i, h => by
    unfold scanF at h
    by_cases h0 : codeE e = 0
    · rw [if_pos h0] at h
      intro e' he
      rcases List.mem_cons.1 he with rfl | he
      · exact h0
      · exact scan_ok l _ h e' he
    · rw [if_neg h0] at h; exact absurd h h0
theorem valF_ok {xs : List Ent} (h : valF xs = (0, 0)) : xs.length ≤ 6 ∧ ∀ e ∈ xs, codeE e = 0 := by
  unfold valF at h
  by_cases h6 : 6 < xs.length
  · rw [if_pos h6] at h; cases h
  · rw [if_neg h6] at h; exact ⟨by omega, scan_ok xs 0 (by rw [h])⟩
theorem valF_good {xs : List Ent} (h : xs.length ≤ 6) (hA : ∀ e ∈ xs, codeE e = 0) : valF xs = (0, 0) := by
  unfold valF
  rw [if_neg (by omega), scan_miss xs 0 fun j hj => by rw [entD hj]; exact hA _ (List.getElem_mem hj)]
theorem bit_self {m : Int} (hm : prm m = true) : bits .and .i64 m m ≠ 0 ∧ bits .and .i64 m 0 = 0 ∧ bits .and .i64 0 m = 0 ∧ bits .and .i64 (bits .or .i64 m 0) m ≠ 0 ∧ bits .and .i64 (bits .or .i64 0 m) m ≠ 0 ∧ 0 < m ∧ m ≤ 15 := by
  have key : ∀ k : Fin 4, bits .and .i64 ((2 ^ k.val : Nat) : Int) ((2 ^ k.val : Nat) : Int) ≠ 0 ∧ bits .and .i64 ((2 ^ k.val : Nat) : Int) 0 = 0 ∧ bits .and .i64 0 ((2 ^ k.val : Nat) : Int) = 0 ∧ bits .and .i64 (bits .or .i64 ((2 ^ k.val : Nat) : Int) 0) ((2 ^ k.val : Nat) : Int) ≠ 0 ∧ bits .and .i64 (bits .or .i64 0 ((2 ^ k.val : Nat) : Int)) ((2 ^ k.val : Nat) : Int) ≠ 0 ∧ 0 < ((2 ^ k.val : Nat) : Int) ∧ ((2 ^ k.val : Nat) : Int) ≤ 15 := by decide +kernel
  obtain ⟨k, rfl⟩ := prm_pow hm
  exact key k

theorem ok_bit {e : Ent} (h : Ok e) {m : Int} (hm : prm m = true) :
    (bits .and .i64 (bits .or .i64 e.a e.d) m != 0) = ((bits .and .i64 e.a m != 0) || (bits .and .i64 e.d m != 0)) ∧ ((bits .and .i64 e.a m != 0) && (bits .and .i64 e.d m != 0)) = false := by
  obtain ⟨k, rfl⟩ := prm_pow hm
  obtain ⟨_, _, h3, h4, h5, h6, h7, _⟩ := h
  obtain ⟨u, a, d⟩ := e
  obtain ⟨A, rfl⟩ := Int.eq_ofNat_of_zero_le h3
  obtain ⟨D, rfl⟩ := Int.eq_ofNat_of_zero_le h5
  simp only at h4 h6 h7
  exact bit_or ⟨A, by omega⟩ ⟨D, by omega⟩ k h7
theorem decRL_eq {o x m : Int} (hm : prm m = true) : ∀ {xs : List Ent}, (∀ e ∈ xs, Ok e) → decRL xs o x m = decL xs o x m
  | [], _ => rfl
  | e :: l, h => by
    have ih := decRL_eq (o := o) (x := x) hm (fun e' he => h e' (List.mem_cons_of_mem e he))
    obtain ⟨h1, h2⟩ := ok_bit (h e (by simp)) hm
    unfold decRL decL
    rw [ih]
    unfold stepR app
    by_cases hc : e.u ≠ x ∧ e.u ≠ -1
    · rw [if_pos hc, if_neg (by unfold cov; rw [decide_eq_false (by omega)]; simp)]
    · rw [if_neg hc]
      have hcov : cov e x = true := by unfold cov; rw [decide_eq_true_iff]; omega
      rw [hcov, h1]
      by_cases hd : bits .and .i64 e.d m = 0
      · by_cases ha : bits .and .i64 e.a m = 0
        · simp [ha, hd]
        · simp [ha, hd]
      · have ha : bits .and .i64 e.a m = 0 := by
          simp at h2
          by_cases ha : bits .and .i64 e.a m = 0
          · exact ha
          · exact absurd (h2 ha) hd
        simp [ha, hd]
theorem decR_eq {o x m : Int} (hm : prm m = true) {xs : List Ent} (h : ∀ e ∈ xs, Ok e) : decR xs o x m = dec xs o x m := by
  unfold decR dec
  rw [decRL_eq hm h]
  by_cases hx : x = 0
  · simp [hx]
  · simp [hx]

end Go.Proofs.YtmbbmmnpkdfecaaGreatDoor
