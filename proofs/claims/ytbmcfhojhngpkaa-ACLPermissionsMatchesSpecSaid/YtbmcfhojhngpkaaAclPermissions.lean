/- acl.Permissions at every list and owner: the eight sets, or the fault. Conditions: the slice's cells lie in memory as they read. -/
import Derived.Test.YtbmcfhojhngpkaaAclPerms
import Derived.Deep.RegionHeld3
namespace Go.Proofs.Ytbmcfhojhngpkaa
open Go.RowKit

def permsOf (xs : List Ent) (o : Int) : List Int := if (usrF xs o 0).1 = 0 then (List.range 8).map (fun u : Nat => pw (dec xs o (u : Int)) 4) else []
/-- What Permissions leaves. -/
def PermPost (xs : List Ent) (o : Int) (w : World) (e : Ending) (w' : World) : Prop :=
  ∃ v, e = .returned (.tuple #[v, .agg #[.int .i64 (usrF xs o 0).1, .int .i64 (usrF xs o 0).2]]) ∧ Ints w' w'.heap.size v (permsOf xs o) ∧ Below w.heap.size w w'
theorem ints_none (w : World) (B : Nat) : Ints w B (.slice none 0 0) [] := ⟨none, 0, rfl, by simp, by simp, fun h => absurd h (by simp)⟩
def zero8 : Array Value := #[.int .i64 0, .int .i64 0, .int .i64 0, .int .i64 0, .int .i64 0, .int .i64 0, .int .i64 0, .int .i64 0]
theorem make8 (w : World) : (Instr.makeSlice 34 (.int .i64 8) (.int .i64 8)).run Try.prog w = .ok (.slice (some ⟨w.heap.size, 0, none⟩) 8 8) (w.alloc (.cells zero8 3)) := by kernel_rfl
theorem perm_bad {xs : List Ent} {o c i : Int} {w w' : World} (h : usrF xs o 0 = (c, i)) (hc : ¬ c = 0) (hb : Below w.heap.size w w') : PermPost xs o w (.returned (.tuple #[.slice none 0 0, .agg #[.int .i64 c, .int .i64 i]])) w' := by
  refine ⟨_, by rw [h], ?_, hb⟩
  unfold permsOf; rw [h, if_neg hc]; exact ints_none _ _

theorem zero8_row (W : World) (t : TypeId) : W.heap.size < (W.alloc (.cells zero8 t)).heap.size ∧ (∀ j, j < 8 → (W.alloc (.cells zero8 t)).cell? ⟨W.heap.size, j, none⟩ = some (.int .i64 0)) ∧ ∀ j, (W.alloc (.cells zero8 t)).frozen? ⟨W.heap.size, j, none⟩ = false := by
  refine ⟨by simp, fun j hj => ?_, fun j => by simp⟩
  match j, hj with
  | 0, _ => simp [zero8]
  | 1, _ => simp [zero8]
  | 2, _ => simp [zero8]
  | 3, _ => simp [zero8]
  | 4, _ => simp [zero8]
  | 5, _ => simp [zero8]
  | 6, _ => simp [zero8]
  | 7, _ => simp [zero8]
/-- What holds at the head of Permissions' loop after k rounds: the boxes, and the row S of eight integers. -/
structure PInv (w wr : World) (v : Value) (xs : List Ent) (o : Int) (n1 n2 S k : Nat) (f : Nat → Int) : Prop where
  B : Below w.heap.size w wr
  X : FBox wr n2 0 0
  G0 : One wr w.heap.size v
  G1 : One wr n1 (.int .i64 o)
  sl : S < wr.heap.size
  sc : ∀ j, j < 8 → wr.cell? ⟨S, j, none⟩ = some (.int .i64 (f j))
  sf : ∀ j, wr.frozen? ⟨S, j, none⟩ = false
  done : ∀ j : Nat, j < k → f j = pw (dec xs o (j : Int)) 4
theorem PInv.next {w wr w2 : World} {v : Value} {xs : List Ent} {o : Int} {n1 n2 S k : Nat} {f : Nat → Int} (h : PInv w wr v xs o n1 n2 S k f) (hb : Below wr.heap.size wr w2) (hk : k < 8)
    (h0 : w.heap.size < S) (h1 : n1 < S) (h2 : n2 < S) : PInv w (w2.setCell ⟨S, k, none⟩ (.int .i64 (pw (dec xs o (k : Int)) 4))) v xs o n1 n2 S (k + 1) (fun j => if j = k then pw (dec xs o (k : Int)) 4 else f j) := by
  have hB : Below w.heap.size w w2 := h.B.trans (hb.mono h.B.size)
  refine ⟨hB.setCell (by first | omega | (simp; done) | (simp; omega)) _, (h.X.below hb h.X.lt).far (by first | omega | (simp; done) | (simp; omega)) _, (h.G0.below hb h.G0.lt).far (by first | omega | (simp; done) | (simp; omega)) _, (h.G1.below hb h.G1.lt).far (by first | omega | (simp; done) | (simp; omega)) _, by have := hb.size; have := h.sl; simp; omega, fun j hj => ?_, fun j => ?_, fun j hj => ?_⟩
  · by_cases e : j = k
    · subst e
      rw [if_pos rfl]
      exact World.cell?_setCell_same _ _ _ ((hb.cell (p := ⟨S, j, none⟩) h.sl).trans (h.sc j hj))
    · rw [if_neg e]
      exact (World.cell?_setCell_other _ ⟨S, k, none⟩ ⟨S, j, none⟩ _ (by first | omega | (simp; done) | (simp; omega))).trans ((hb.cell (p := ⟨S, j, none⟩) h.sl).trans (h.sc j hj))
  · have := (hb.frozen (p := ⟨S, j, none⟩) h.sl).trans (h.sf j)
    simpa using this
  · by_cases e : j = k
    · subst e; simp
    · rw [if_neg e]; exact h.done j (by omega)
theorem permsOf_ok {xs : List Ent} {o : Int} (h : usrF xs o 0 = (0, 0)) : permsOf xs o = (List.range 8).map (fun u : Nat => pw (dec xs o (u : Int)) 4) := by
  unfold permsOf; rw [h, if_pos rfl]
theorem PInv.end_ {w wr w' : World} {v : Value} {xs : List Ent} {o : Int} {n1 n2 S : Nat} {f : Nat → Int} (h : PInv w wr v xs o n1 n2 S 8 f) (hu : usrF xs o 0 = (0, 0)) (hb : Below w.heap.size w w')
    (hs : S < w'.heap.size) (hc : ∀ j, j < 8 → w'.cell? ⟨S, j, none⟩ = wr.cell? ⟨S, j, none⟩) : PermPost xs o w (.returned (.tuple #[.slice (some ⟨S, 0, none⟩) 8 8, .agg #[.int .i64 0, .int .i64 0]])) w' := by
  refine ⟨_, by rw [hu], ?_, hb⟩
  rw [permsOf_ok hu]
  refine ⟨_, 8, rfl, by simp, by simp, fun _ => ⟨S, 0, rfl, hs, fun j hj => ?_⟩⟩
  have hj8 : j < 8 := by simpa using hj
  rw [Nat.zero_add, hc j hj8, h.sc j hj8, h.done j hj8, List.getD_eq_getElem?_getD, List.getElem?_eq_getElem hj]
  simp

set_option maxHeartbeats 1600000 in
theorem permissions_any (v : Value) (xs : List Ent) (o : Int) (w : World) (h : Acls w w.heap.size v xs) :
    Calls Try.prog 15 #[v, .int .i64 o] w (PermPost xs o w) := by
  have c1 := fun W (hb : Below w.heap.size w W) => validate_any v xs W ((h.below hb).more hb.size)
  have H := Lib.hid h
  obtain ⟨av, cv, rfl, _⟩ := h
  generalize hv : valF xs = p
  obtain ⟨c, i⟩ := p
  rw [valV_pair hv] at c1
  have C1 := Lib.hid c1
  clear c1
  by_cases hc : c = 0
  · subst hc
    have hv0 := valF_zero (xs := xs) (by rw [hv])
    obtain rfl : i = 0 := by rw [hv] at hv0; injection hv0
    clear hv0
    cases hu : usr o with
    | false =>
      have HV := Lib.hid (show usrF xs o 0 = (3, -1) by unfold usrF; rw [hv, if_pos ⟨rfl, by rw [hu]; rfl⟩])
      have HU := Lib.hid hu
      clear hu hv
      go_enter Try.func15, Try.ntmps15
      go_wp2_with fail
      refine (C1.out _ ((((Below.refl _ _).alloc (Nat.le_refl _) _).alloc (by simp) _).alloc (by simp; omega) _)).mono ?_
      rintro e w1 ⟨rfl, b1⟩
      have B1 : Below w.heap.size w w1 := ((((Below.refl _ _).alloc (Nat.le_refl _) _).alloc (by simp) _).alloc (by simp; omega) _).trans (b1.mono (by simp; omega))
      have X1 := Lib.hid (((FBox.new ((w.alloc (.cells #[.slice av xs.length cv] 22)).alloc (.cells #[.int .i64 o] 3)) 0 0 24).below b1 (by simp)).at_ (n' := w.heap.size + 1 + 1) (by simp))
      have G1 := (((One.new (w.alloc (.cells #[.slice av xs.length cv] 22)) (.int .i64 o) 3).alloc (.cells #[.int .i64 0, .int .i64 0] 24)).below b1 (by first | omega | (simp; done) | (simp; omega))).at_ (n' := w.heap.size + 1) (by simp)
      have g1 := G1.c0
      have hl1 := G1.lt
      have hs := X1.out.lt
      clear b1
      have q2 : w.heap.size ≤ w.heap.size + 1 + 1 := by omega
      have q1 : w.heap.size ≤ w.heap.size + 1 := by omega
      generalize w.heap.size + 1 + 1 = n2 at *
      generalize w.heap.size + 1 = n1 at *
      go_wp2_with fail
      refine (users1c_any o false HU.out _ _ _ (by simp)).mono ?_
      rintro e w' ⟨rfl, rfl⟩
      obtain ⟨l1, a0, a1, k0, k1⟩ := X1.out
      go_wp2
      refine bodyPost_ret (v := .tuple #[.slice none 0 0, .agg #[.int .i64 3, .int .i64 (-1)]]) (by simp [results, Try.results15, go_sem, a0, a1, l1]) rfl (perm_bad HV.out (by decide) ?_)
      have := B1.size
      repeat (first | exact B1 | refine Below.setCell ?_ (by first | omega | (simp; done) | (simp; omega)) _ | refine Below.alloc ?_ (by first | omega | (simp; done) | (simp; omega)) _ | refine Below.drew ?_)
    | true =>
      have HV := Lib.hid (show usrF xs o 0 = (0, 0) by unfold usrF; rw [hv, if_neg (fun k => by rw [hu] at k; cases k.2)])
      have HU := Lib.hid hu
      clear hu hv
      have hmk := make8
      go_enter Try.func15, Try.ntmps15
      go_wp2_with fail
      refine (C1.out _ ((((Below.refl _ _).alloc (Nat.le_refl _) _).alloc (by simp) _).alloc (by simp; omega) _)).mono ?_
      rintro e w1 ⟨rfl, b1⟩
      have B1 : Below w.heap.size w w1 := ((((Below.refl _ _).alloc (Nat.le_refl _) _).alloc (by simp) _).alloc (by simp; omega) _).trans (b1.mono (by simp; omega))
      have X1 := Lib.hid (((FBox.new ((w.alloc (.cells #[.slice av xs.length cv] 22)).alloc (.cells #[.int .i64 o] 3)) 0 0 24).below b1 (by simp)).at_ (n' := w.heap.size + 1 + 1) (by simp))
      have G1 := (((One.new (w.alloc (.cells #[.slice av xs.length cv] 22)) (.int .i64 o) 3).alloc (.cells #[.int .i64 0, .int .i64 0] 24)).below b1 (by first | omega | (simp; done) | (simp; omega))).at_ (n' := w.heap.size + 1) (by simp)
      have g1 := G1.c0
      have hl1 := G1.lt
      have G0 := (((One.new w (.slice av xs.length cv) 22).alloc (.cells #[.int .i64 o] 3)).alloc (.cells #[.int .i64 0, .int .i64 0] 24)).below b1 (by first | omega | (simp; done) | (simp; omega))
      have g0 := G0.c0
      have hl0 := G0.lt
      have hs := X1.out.lt
      clear b1
      have q2 : w.heap.size ≤ w.heap.size + 1 + 1 := by omega
      have q1 : w.heap.size ≤ w.heap.size + 1 := by omega
      generalize w.heap.size + 1 + 1 = n2 at *
      generalize w.heap.size + 1 = n1 at *
      go_wp2_with fail
      refine (users1c_any o true HU.out _ _ _ (by simp)).mono ?_
      rintro e w' ⟨rfl, rfl⟩
      go_wp2_with fail
      obtain ⟨S, hS⟩ : ∃ S, w1.heap.size + 1 + 1 = S := ⟨_, rfl⟩
      have r0 : w.heap.size < S := by omega
      have r1 : n1 < S := by omega
      have r2 : n2 < S := by have := X1.out.lt; omega
      have INV : PInv w (((w1.alloc (.cells #[.int .i64 0, .int .i64 0] 24)).alloc (.cells #[.int .i64 o] 3)).alloc (.cells zero8 3)) (.slice av xs.length cv) xs o n1 n2 S 0 (fun _ => 0) := by
        have hS2 : S = ((w1.alloc (.cells #[.int .i64 0, .int .i64 0] 24)).alloc (.cells #[.int .i64 o] 3)).heap.size := by rw [← hS]; simp
        refine ⟨((B1.alloc B1.size _).alloc (by have h9 := B1.size; first | omega | (simp; done) | (simp; omega)) _).alloc (by have h9 := B1.size; first | omega | (simp; done) | (simp; omega)) _, ((X1.out.alloc _).alloc _).alloc _, ((G0.alloc _).alloc _).alloc _, ((G1.alloc _).alloc _).alloc _, by rw [hS2]; exact (zero8_row _ _).1, fun j hj => by rw [hS2]; exact (zero8_row _ _).2.1 j hj, fun j => by rw [hS2]; exact (zero8_row _ _).2.2 j, fun j hj => absurd hj (Nat.not_lt_zero _)⟩
      have IN := Lib.hid INV
      rw [hS]
      have HSS := Lib.hid hS
      clear INV hS hmk g0 g1 hl0 hl1 G0 G1 X1 B1 q1
      go_loopg [8, 23] 8 (fun gg _ s23 wr => ∃ (k : Nat) (f : Nat → Int), k ≤ 8 ∧ 8 - k ≤ gg ∧ s23 = .int .i64 k ∧ Aside (PInv w wr (.slice av xs.length cv) xs o n1 n2 S k f))
      case atStart => exact ⟨0, _, by omega, by omega, rfl, IN.out⟩
      case round =>
        obtain ⟨k, f, hk, hg, rfl, I⟩ := hrel
        clear IN
        by_cases hlt : k < 8
        · have hltz : (k : Int) < 8 := by omega
          have HPW : Hid (∀ W, Below wr.heap.size wr W → One W wr.heap.size (.int .i64 (k : Int)) → Calls Try.prog 24 #[.func (.func 25) #[] #[.pointer (some ⟨w.heap.size, 0, none⟩), .pointer (some ⟨n1, 0, none⟩), .pointer (some ⟨wr.heap.size, 0, none⟩)]] W fun e w' => e = .returned (.int .i64 (pw (dec xs o (k : Int)) 4)) ∧ Below W.heap.size W w') := Lib.hid (by
            intro W hW hO
            refine permsWhere_any 25 ⟨w.heap.size, 0, none⟩ ⟨n1, 0, none⟩ ⟨wr.heap.size, 0, none⟩ eg_perms1 (dec xs o (k : Int)) W ?_
            intro W' m _ hW'
            have hB : Below w.heap.size w W' := (I.out.B.trans (hW.mono I.out.B.size)).trans (hW'.mono (Nat.le_trans I.out.B.size hW.size))
            exact perms1_any _ xs o k m w.heap.size n1 wr.heap.size W' ((H.out.below hB).more hB.size) ((I.out.G0.below hW I.out.G0.lt).below hW' (I.out.G0.below hW I.out.G0.lt).lt).c0 ((I.out.G1.below hW I.out.G1.lt).below hW' (I.out.G1.below hW I.out.G1.lt).lt).c0 (hO.below hW' hO.lt).c0)
          have IR := Lib.hid (show wr.cell? ⟨S, k, none⟩ = some (.int .i64 (f k)) ∧ wr.frozen? ⟨S, k, none⟩ = false ∧ S < wr.heap.size from ⟨I.out.sc k hlt, I.out.sf k, I.out.sl⟩)
          have hi0 : (0 : Int) ≤ (k : Int) := Int.natCast_nonneg _
          go_wp2_with fail
          go_region_held3 (fun w' => w'.cell? ⟨wr.heap.size, 0, none⟩ = some (.int .i64 (k : Int)))
            (first | go_keep | exact hk2 | exact (World.cell?_setCell_other _ ⟨S, k, none⟩ ⟨wr.heap.size, 0, none⟩ _ (by have h9 := IR.out.2.2; first | omega | (simp; done) | (simp; omega))).trans hk2)
            ((go_at_call 24; refine (HPW.out _ (((Below.refl _ _).alloc (Nat.le_refl _) _).drew) ((One.new _ _ _).drew)).mono ?_; rintro e w2 ⟨rfl, hb2⟩; have hk2 : w2.cell? ⟨wr.heap.size, 0, none⟩ = some (.int .i64 (k : Int)) := ((One.new wr (.int .i64 (k : Int)) 3).drew.below hb2 (One.new wr (.int .i64 (k : Int)) 3).drew.lt).c0; have hbw : Below wr.heap.size wr w2 := (((Below.refl _ _).alloc (Nat.le_refl _) _).drew).trans (hb2.mono (by simp [World.drew])); have hk3 : w2.cell? ⟨S, k, none⟩ = some (.int .i64 (f k)) := (hbw.cell (p := ⟨S, k, none⟩) IR.out.2.2).trans IR.out.1; have hk4 : w2.frozen? ⟨S, k, none⟩ = false := (hbw.frozen (p := ⟨S, k, none⟩) IR.out.2.2).trans IR.out.2.1))
          all_goals
            have I2 := Lib.hid (I.out.next hbw hlt r0 r1 r2)
            clear hk2 hk3 hk4 hbw hb2
            go_wp2
            go_roundg (8 - (k + 1))
            case measure => omega
            case rel => exact ⟨k + 1, _, by omega, by omega, by go_num, I2.out⟩
        · obtain rfl : k = 8 := by omega
          obtain ⟨l1, a0, a1, k0, k1⟩ := I.out.X
          go_wp2
          refine bodyPost_ret (v := .tuple #[.slice (some ⟨S, 0, none⟩) 8 8, .agg #[.int .i64 0, .int .i64 0]]) (by simp [results, Try.results15, go_sem, a0, a1]) rfl (I.out.end_ HV.out ((I.out.B.setCell (by first | omega | (simp; done) | (simp; omega)) _).setCell (by first | omega | (simp; done) | (simp; omega)) _) (by simpa using I.out.sl) (fun j _ => ?_))
          rw [World.cell?_setCell_other _ _ _ _ (by first | omega | (simp; done) | (simp; omega)), World.cell?_setCell_other _ _ _ _ (by first | omega | (simp; done) | (simp; omega))]
  · have HV := Lib.hid (show usrF xs o 0 = (c, i) by unfold usrF; rw [hv, if_neg (fun k => hc k.1)])
    have HC := Lib.hid hc
    have hc1 : (c != 0) = true := by simpa using hc
    have hc2 : (c == 0) = false := by simpa using hc
    clear hv hc
    go_enter Try.func15, Try.ntmps15
    go_wp2_with fail
    refine (C1.out _ ((((Below.refl _ _).alloc (Nat.le_refl _) _).alloc (by simp) _).alloc (by simp; omega) _)).mono ?_
    rintro e w1 ⟨rfl, b1⟩
    have B1 : Below w.heap.size w w1 := ((((Below.refl _ _).alloc (Nat.le_refl _) _).alloc (by simp) _).alloc (by simp; omega) _).trans (b1.mono (by simp; omega))
    have X1 := ((FBox.new ((w.alloc (.cells #[.slice av xs.length cv] 22)).alloc (.cells #[.int .i64 o] 3)) 0 0 24).below b1 (by simp)).at_ (n' := w.heap.size + 1 + 1) (by simp)
    clear b1
    have q2 : w.heap.size ≤ w.heap.size + 1 + 1 := by omega
    have q1 : w.heap.size ≤ w.heap.size + 1 := by omega
    generalize w.heap.size + 1 + 1 = n2 at *
    generalize w.heap.size + 1 = n1 at *
    obtain ⟨l1, a0, a1, k0, k1⟩ := X1
    go_wp2
    go_region
    all_goals
      go_wp2
      refine bodyPost_ret (v := .tuple #[.slice none 0 0, .agg #[.int .i64 c, .int .i64 i]]) (by simp [results, Try.results15, go_sem, a0, a1, l1]) rfl (perm_bad HV.out HC.out ?_)
      have := B1.size
      repeat (first | exact B1 | refine Below.setCell ?_ (by first | omega | (simp; done) | (simp; omega)) _ | refine Below.alloc ?_ (by first | omega | (simp; done) | (simp; omega)) _ | refine Below.drew ?_)

end Go.Proofs.Ytbmcfhojhngpkaa
