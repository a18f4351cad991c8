/- Package memfs and what it calls, at this seat's translation.
   Condition: as each theorem states; this text: MfMem, FsCells, MfFind, MfCloneT, FsRefs, MfIns, MfField. -/
import Derived.Test.YtmbbmmnpkdfecaaGreatDoorMb8
import Derived.Test.YtmbbmmnpkdfecaaGreatDoorMb1
import Derived.Test.YtmbbmmnpkdfecaaGreatDoorMb4
import Derived.Laws.MakeOwn
import Derived.Test.YtmbbmmnpkdfecaaGreatDoorMb7
import Derived.Test.YtmbbmmnpkdfecaaGreatDoorMb2
import Derived.Laws.Externs
import Derived.Lib.Overlaps
import Derived.Shelf.Abstract
import Derived.Shelf.Spec.SlicesInsert
import Derived.Lib.AppendZerosOnto
import Derived.Deep.RegionLaw
import Derived.Shelf.RegionOpenPlain
import Derived.Laws.OwnMore
import Derived.Laws.CopyOwn

set_option linter.all false

/- Trees in memory that a call owns: the row of inodes, the rows of each inode, each entries' row apart from the others; kept over new blocks and over stores; what they read as. Conditions: as each theorem states. -/

set_option linter.all false
namespace Go.Proofs.YtmbbmmnpkdfecaaGreatDoor
open Go.RowKit

/-! ## Rows of entries, bytes -/
def DE.cells (e : DE) : List Value := [.string e.n, .int .i64 e.i]
def flatD (es : List DE) : List Value := es.flatMap DE.cells
theorem flatD_cons (e : DE) (es : List DE) : flatD (e :: es) = .string e.n :: .int .i64 e.i :: flatD es := by
  unfold flatD DE.cells; rw [List.flatMap_cons]; rfl
theorem flatD_append (xs ys : List DE) : flatD (xs ++ ys) = flatD xs ++ flatD ys := by unfold flatD; rw [List.flatMap_append]
theorem flatD_len : ∀ es : List DE, (flatD es).length = es.length * 2
  | [] => rfl
  | e :: es => by rw [flatD_cons]; simp only [List.length_cons]; rw [flatD_len es]; omega
theorem flatD_one : ∀ (es : List DE), ∀ u ∈ flatD es, u.oneCell' = true
  | [], u, h => by simp [flatD] at h
  | e :: es, u, h => by
    rw [flatD_cons] at h
    rcases List.mem_cons.1 h with rfl | h
    · rfl
    · rcases List.mem_cons.1 h with rfl | h
      · rfl
      · exact flatD_one es u h
theorem flatD_get : ∀ (es : List DE) (j : Nat), j < es.length →
    (flatD es)[j * 2]? = some (.string (es.getD j D0).n) ∧ (flatD es)[j * 2 + 1]? = some (.int .i64 (es.getD j D0).i)
  | [], j, h => absurd h (by simp)
  | e :: es, 0, _ => by rw [flatD_cons]; simp
  | e :: es, j + 1, h => by
    have ih := flatD_get es j (by simpa using h)
    have e1 : (j + 1) * 2 = j * 2 + 1 + 1 := by omega
    rw [flatD_cons, e1]
    simpa using ih
def flatB (d : List UInt8) : List Value := d.map fun b => .int .u8 (b.toNat : Int)
theorem flatB_len (d : List UInt8) : (flatB d).length = d.length * 1 := by simp [flatB]
theorem flatB_one (d : List UInt8) : ∀ u ∈ flatB d, u.oneCell' = true := by
  intro u hu
  obtain ⟨b, _, rfl⟩ := List.mem_map.1 hu
  rfl
theorem own_n {w : World} {base size n : Nat} {e : TypeId} {v : Value} {xs : List Value} (h : w.ownsRow base e size v n xs) : xs.length = n * size := h.1
theorem own_lt {w : World} {g : Nat} {o : Obj} (hg : w.heap[g]? = some o) : g < w.heap.size := by
  rcases Nat.lt_or_ge g w.heap.size with hlt | hge
  · exact hlt
  · rw [Array.getElem?_eq_none hge] at hg; cases hg
theorem des_own {w : World} {base n : Nat} {v : Value} {es : List DE} (h : w.ownsRow base 93 2 v n (flatD es)) (hf : ∀ e ∈ es, e.fits) (hl : es.length ≤ 35184372088832) : DEs w w.heap.size v es := by
  have hn : n = es.length := by have := h.1; rw [flatD_len] at this; omega
  subst hn
  rcases h.2 with ⟨hv, h0⟩ | ⟨g, cap, cur, hv, _, hg, hnc, _, _, _⟩
  · have : es = [] := List.eq_nil_of_length_eq_zero h0
    subst this
    rw [hv]; exact DEs.none_ _ _
  · rw [hv] at h
    refine ⟨_, cap, hv, hnc, hl, hf, fun _ => ⟨g, 0, rfl, own_lt hg, fun j hj => ?_⟩⟩
    obtain ⟨h1, h2⟩ := flatD_get es j hj
    rw [← h.cellAt (j * 2) (by omega)] at h1
    rw [← h.cellAt (j * 2 + 1) (by omega)] at h2
    simp only [Nat.zero_add]
    exact ⟨h1, h2⟩
theorem byts_own {w : World} {base n : Nat} {v : Value} {d : List UInt8} (h : w.ownsRow base 5 1 v n (flatB d)) (hl : d.length ≤ 140737488355328) : Byts w w.heap.size v d := by
  have hn : n = d.length := by have := h.1; rw [flatB_len] at this; omega
  subst hn
  rcases h.2 with ⟨hv, h0⟩ | ⟨g, cap, cur, hv, _, hg, hnc, _, _, _⟩
  · have : d = [] := List.eq_nil_of_length_eq_zero h0
    subst this
    rw [hv]; exact Byts.none_ _ _
  · rw [hv] at h
    refine ⟨_, cap, hv, hnc, hl, fun _ => ⟨g, 0, rfl, own_lt hg, fun j hj => ?_⟩⟩
    have h1 := h.cellAt j (by omega)
    rw [Nat.zero_add, h1]
    unfold flatB
    rw [List.getElem?_map, List.getElem?_eq_getElem hj, List.getD_eq_getElem?_getD, List.getElem?_eq_getElem hj]; rfl

/-- Two rows of different element types lie in different blocks. -/
theorem own_apart {w : World} {base base' n m s s' : Nat} {e e' : TypeId} {v u : Value} {xs ys : List Value} (h : w.ownsRow base e s v n xs) (h' : w.ownsRow base' e' s' u m ys) (he : e ≠ e') {g : Nat} (hv : v.ownBlock = some g) : u.ownBlock ≠ some g := by
  intro hu
  rcases h.2 with ⟨rfl, _⟩ | ⟨g1, c1, cur1, rfl, _, hg1, _⟩
  · cases hv
  · rcases h'.2 with ⟨rfl, _⟩ | ⟨g2, c2, cur2, rfl, _, hg2, _⟩
    · cases hu
    · have e1 : g1 = g := by simpa [Value.ownBlock] using hv
      have e2 : g2 = g := by simpa [Value.ownBlock] using hu
      rw [e1] at hg1
      rw [e2, hg1] at hg2
      injection hg2 with hg2
      injection hg2 with _ h3
      exact he h3
theorem own_kept {w w' : World} {base n size : Nat} {e : TypeId} {v : Value} {xs : List Value} {row : Option Nat} (h : w.ownsRow base e size v n xs) (hg : w.grownBy w' row) (hne : ∀ g, row = some g → v.ownBlock ≠ some g) : w'.ownsRow base e size v n xs :=
  h.kept hg (by
    cases hv : v.ownBlock with
    | none => exact .inl rfl
    | some g => exact .inr (fun e => hne g e.symm hv))
theorem own_lower {w : World} {base base' n size : Nat} {e : TypeId} {v : Value} {xs : List Value} (h : w.ownsRow base e size v n xs) (hb : base' ≤ base) : w.ownsRow base' e size v n xs := by
  refine ⟨h.1, ?_⟩
  rcases h.2 with hn | ⟨g, cap, cur, hv, hg, r⟩
  · exact .inl hn
  · exact .inr ⟨g, cap, cur, hv, Nat.le_trans hb hg, r⟩

/-! ## An inode's rows -/
structure Sl where
  e : Value
  d : Value
  a : Value
  x : Value
structure Rws (w : World) (base : Nat) (s : Sl) (x : Ino) : Prop where
  e : w.ownsRow base 93 2 s.e x.es.length (flatD x.es)
  d : w.ownsRow base 5 1 s.d x.d.length (flatB x.d)
  a : w.ownsRow base 108 3 s.a x.ac.length (flatE x.ac)
  x : w.ownsRow base 28 2 s.x x.xs.length (flatA x.xs)
/-- All numbers and sizes are a machine's. -/
structure Fit (x : Ino) : Prop where
  k : i64 x.k
  o : i64 x.o
  q : i64 x.q
  v : i64 x.v
  es : ∀ e ∈ x.es, e.fits
  ac : ∀ e ∈ x.ac, e.fits
  xs : ∀ e ∈ x.xs, e.fits
  le : x.es.length ≤ 1000
  ld : x.d.length ≤ 1000
  la : x.ac.length ≤ 1000
  lx : x.xs.length ≤ 1000
theorem Rws.grown {w w' : World} {base : Nat} {s : Sl} {x : Ino} {row : Option Nat} (h : Rws w base s x) (hg : w.grownBy w' row) (hne : ∀ g, row = some g → s.e.ownBlock ≠ some g ∧ s.d.ownBlock ≠ some g ∧ s.a.ownBlock ≠ some g ∧ s.x.ownBlock ≠ some g) : Rws w' base s x :=
  ⟨own_kept h.e hg fun g e => (hne g e).1, own_kept h.d hg fun g e => (hne g e).2.1, own_kept h.a hg fun g e => (hne g e).2.2.1, own_kept h.x hg fun g e => (hne g e).2.2.2⟩
theorem grown_below {w w' : World} (h : Below w.heap.size w w') : w.grownBy w' none := ⟨h.os, h.tape, h.output, h.size, fun k hk _ => h.block k hk⟩
theorem Rws.up {w w' : World} {base : Nat} {s : Sl} {x : Ino} (h : Rws w base s x) (hb : Below w.heap.size w w') : Rws w' base s x := h.grown (grown_below hb) (fun g e => by cases e)
theorem Rws.nodS {w : World} {base : Nat} {s : Sl} {x : Ino} (h : Rws w base s x) (f : Fit x) : NodS w w.heap.size s.e s.d s.a s.x x.nod := by
  have hl := f.le; have h2 := f.ld; have h3 := f.la; have h4 := f.lx
  refine ⟨des_own h.e f.es (show x.es.length ≤ _ by omega), ?_, (show x.d.length ≤ 140737488355328 by omega), acls_own h.a f.ac (show x.ac.length ≤ _ by omega), ats_own h.x f.xs (show x.xs.length ≤ _ by omega), f.k, f.o, f.q, f.v⟩
  obtain ⟨a, c, e1, e2, _⟩ := byts_own h.d (by omega)
  exact ⟨a, c, e1, e2⟩
theorem Rws.byts {w : World} {base : Nat} {s : Sl} {x : Ino} (h : Rws w base s x) (f : Fit x) : Byts w w.heap.size s.d x.d := byts_own h.d (by have := f.ld; omega)
/-- The eight cells of an inode. -/
def inoL (x : Ino) (s : Sl) : List Value := [.int .i64 x.k, .int .i64 x.o, s.e, s.d, s.a, s.x, .int .i64 x.q, .int .i64 x.v]
theorem nodC_of {w : World} {b o : Nat} {x : Ino} {s : Sl} (h : ∀ i u, (inoL x s)[i]? = some u → w.cell? ⟨b, o + i, none⟩ = some u) : NodC w b o s.e s.d s.a s.x x.nod :=
  ⟨h 0 _ rfl, h 1 _ rfl, h 2 _ rfl, h 3 _ rfl, h 4 _ rfl, h 5 _ rfl, h 6 _ rfl, h 7 _ rfl⟩

/-! ## A tree that a call owns -/
structure OT (w : World) (base g cap : Nat) (sl : Nat → Sl) (t : FT) : Prop where
  own : ∃ cs, w.ownsRow base 63 8 (.slice (some ⟨g, 0, none⟩) t.length cap) t.length cs
  c : ∀ j, j < t.length → ∀ i u, (inoL (ino t j) (sl j))[i]? = some u → w.cell? ⟨g, j * 8 + i, none⟩ = some u
  r : ∀ j, j < t.length → Rws w base (sl j) (ino t j)
  ne : ∀ i j, i < t.length → j < t.length → i ≠ j → ∀ b, (sl i).e.ownBlock = some b → (sl j).e.ownBlock ≠ some b
  fit : ∀ j, j < t.length → Fit (ino t j)
  len : t.length ≤ 1000
theorem OT.lt {w : World} {base g cap : Nat} {sl : Nat → Sl} {t : FT} (h : OT w base g cap sl t) : base ≤ g ∧ g < w.heap.size := by
  obtain ⟨cs, h⟩ := h.own
  exact h.lt g rfl
theorem OT.cap {w : World} {base g cap : Nat} {sl : Nat → Sl} {t : FT} (h : OT w base g cap sl t) : t.length ≤ cap ∧ cap ≤ maxLen := by
  obtain ⟨cs, h⟩ := h.own
  rcases h.2 with ⟨h', _⟩ | ⟨g', cap', cur, h', _, hg, h1, h2, _⟩
  · simp at h'
  · simp only [Value.slice.injEq, Option.some.injEq, Addr.mk.injEq, and_true, true_and] at h'
    obtain ⟨rfl, rfl⟩ := h'
    exact ⟨h1, h2⟩
theorem OT.frozen {w : World} {base g cap : Nat} {sl : Nat → Sl} {t : FT} (h : OT w base g cap sl t) (j : Nat) : w.frozen? ⟨g, j, none⟩ = false := by
  obtain ⟨cs, h⟩ := h.own
  exact h.frozenAt j
theorem OT.nodc {w : World} {base g cap : Nat} {sl : Nat → Sl} {t : FT} (h : OT w base g cap sl t) {j : Nat} (hj : j < t.length) : NodC w g (j * 8) (sl j).e (sl j).d (sl j).a (sl j).x (ino t j).nod := nodC_of (h.c j hj)
theorem OT.apart {w : World} {base g cap : Nat} {sl : Nat → Sl} {t : FT} (h : OT w base g cap sl t) {base' : Nat} {s : Sl} {x : Ino} (hr : Rws w base' s x) : s.e.ownBlock ≠ some g ∧ s.d.ownBlock ≠ some g ∧ s.a.ownBlock ≠ some g ∧ s.x.ownBlock ≠ some g := by
  obtain ⟨cs, ho⟩ := h.own
  exact ⟨own_apart ho hr.e (by decide) rfl, own_apart ho hr.d (by decide) rfl, own_apart ho hr.a (by decide) rfl, own_apart ho hr.x (by decide) rfl⟩
/-- The blocks of a tree that are written in place: that of the inodes, and those of the entries. -/
def Foot (g : Nat) (sl : Nat → Sl) (n : Nat) (b : Nat) : Prop := b = g ∨ ∃ j, j < n ∧ (sl j).e.ownBlock = some b
theorem OT.up {w w' : World} {base g cap : Nat} {sl : Nat → Sl} {t : FT} (h : OT w base g cap sl t) (hb : Below w.heap.size w w') : OT w' base g cap sl t := by
  obtain ⟨cs, ho⟩ := h.own
  refine ⟨⟨cs, own_kept ho (grown_below hb) (fun g e => by cases e)⟩, fun j hj i u hu => ?_, fun j hj => (h.r j hj).up hb, h.ne, h.fit, h.len⟩
  exact (hb.cell (p := ⟨g, j * 8 + i, none⟩) h.lt.2).trans (h.c j hj i u hu)
theorem OT.nods {w : World} {base g cap : Nat} {sl : Nat → Sl} {t : FT} (h : OT w base g cap sl t) : Nods w w.heap.size (some ⟨g, 0, none⟩) cap (tr t) := by
  refine ⟨by simpa using h.cap.1, by have := h.len; simp; omega, fun _ => ⟨g, 0, rfl, h.lt.2, fun j hj => ?_⟩⟩
  have hj : j < t.length := by simpa using hj
  rw [nod_tr, Nat.zero_add]
  exact ⟨_, _, _, _, h.nodc hj, (h.r j hj).nodS (h.fit j hj)⟩
def upd (sl : Nat → Sl) (j : Nat) (s : Sl) : Nat → Sl := fun i => if i = j then s else sl i
/-- A store into one cell of one inode. -/
theorem OT.store {w : World} {base g cap : Nat} {sl : Nat → Sl} {t : FT} (h : OT w base g cap sl t) {j : Nat} (hj : j < t.length) {i : Nat} (hi : i < 8) (u : Value) (x' : Ino) (s' : Sl)
    (hc : inoL x' s' = (inoL (ino t j) (sl j)).set i u) (hr : Rws w base s' x') (hf : Fit x') (hne : ∀ k, k < t.length → k ≠ j → ∀ b, (sl k).e.ownBlock = some b → s'.e.ownBlock ≠ some b) :
    OT (w.setCell ⟨g, j * 8 + i, none⟩ u) base g cap (upd sl j s') (t.set j x') ∧ w.grownBy (w.setCell ⟨g, j * 8 + i, none⟩ u) (some g) := by
  obtain ⟨cs, ho⟩ := h.own
  obtain ⟨ho2, hg⟩ := ho.stored (j * 8 + i) u
  have hl : (t.set j x').length = t.length := List.length_set
  have hcell : ∀ k, k < t.length → ∀ m v, (inoL (ino t k) (sl k))[m]? = some v → ¬ (k = j ∧ m = i) → (w.setCell ⟨g, j * 8 + i, none⟩ u).cell? ⟨g, k * 8 + m, none⟩ = some v := by
    intro k hk m v hv hn
    have hm : m < 8 := (List.getElem?_eq_some_iff.1 hv).1
    refine (World.cell?_setCell_other w _ _ u (fun e => hn ?_)).trans (h.c k hk m v hv)
    have e := congrArg Addr.off e
    simp at e
    omega
  refine ⟨⟨⟨_, by rw [hl]; exact ho2⟩, fun k hk m v hv => ?_, fun k hk => ?_, fun a b ha hb hab q hq => ?_, fun k hk => ?_, by rw [hl]; exact h.len⟩, hg⟩
  · rw [hl] at hk
    rw [ino_set hj] at hv
    unfold upd at hv
    by_cases e : k = j
    · subst e
      simp only [if_true] at hv
      rw [hc, List.getElem?_set] at hv
      by_cases e2 : i = m
      · subst e2
        rw [if_pos rfl, if_pos (show i < (inoL (ino t k) (sl k)).length by simp [inoL]; omega)] at hv
        injection hv with hv
        subst hv
        obtain ⟨v0, hv0⟩ : ∃ v0, (inoL (ino t k) (sl k))[i]? = some v0 := ⟨_, List.getElem?_eq_getElem (show i < (inoL (ino t k) (sl k)).length by simp [inoL]; omega)⟩
        exact World.cell?_setCell_same w _ u (h.c k hk i v0 hv0)
      · rw [if_neg e2] at hv
        exact hcell k hk m v hv (fun e => e2 e.2.symm)
    · simp only [if_neg e] at hv
      exact hcell k hk m v hv (fun e3 => e e3.1)
  · rw [hl] at hk
    rw [ino_set hj]
    unfold upd
    by_cases e : k = j
    · subst e
      simp only [if_true]
      exact hr.grown hg (fun b e => by injection e with e; subst e; exact h.apart hr)
    · simp only [if_neg e]
      exact (h.r k hk).grown hg (fun b e => by injection e with e; subst e; exact h.apart (h.r k hk))
  · rw [hl] at ha hb
    unfold upd at hq ⊢
    by_cases e1 : a = j
    · subst e1
      simp only [if_true] at hq
      have e2 : ¬ b = a := fun e => hab e.symm
      simp only [if_neg e2]
      intro hx
      exact hne b hb e2 q hx hq
    · simp only [if_neg e1] at hq
      by_cases e2 : b = j
      · subst e2
        simp only [if_true]
        exact hne a ha e1 q hq
      · simp only [if_neg e2]
        exact h.ne a b ha hb hab q hq
  · rw [hl] at hk
    rw [ino_set hj]
    by_cases e : k = j
    · rw [if_pos e]; exact hf
    · rw [if_neg e]; exact h.fit k hk

end Go.Proofs.YtmbbmmnpkdfecaaGreatDoor

/- Rows of ints and bools that a call makes, and what a check of package fstree returns. Conditions: as each theorem states. -/

set_option linter.all false
namespace Go.Proofs.YtmbbmmnpkdfecaaGreatDoor
open Go.RowKit

theorem make_ints (n : Nat) (hn : n ≤ 40) (w : World) : (Instr.makeSlice 67 (.int .i64 (n : Int)) (.int .i64 (n : Int))).run Tryz.prog w = .ok (.slice (some ⟨w.heap.size, 0, none⟩) n n) (w.alloc (.cells (madeCells #[.int .i64 0] n) 3)) := by
  obtain ⟨i0, hi, hz0, hz1, hz2⟩ := info_parts int_info
  have hr := run_make (P := Tryz.prog) w 67 3 i0 _ Tryz.underlying67 hi hz0 .i64 .i64 n n (by omega) (by omega) (by rw [hz2]; omega) (by omega)
  simp only [Int.toNat_natCast, hz1, Nat.mul_one] at hr
  exact hr
theorem make_bools (n : Nat) (hn : n ≤ 40) (w : World) : (Instr.makeSlice 139 (.int .i64 (n : Int)) (.int .i64 (n : Int))).run Tryz.prog w = .ok (.slice (some ⟨w.heap.size, 0, none⟩) n n) (w.alloc (.cells (madeCells #[.bool false] n) 4)) := by
  obtain ⟨i0, hi, hz0, hz1, hz2⟩ := info_parts bool_info
  have hr := run_make (P := Tryz.prog) w 139 4 i0 _ Tryz.underlying139 hi hz0 .i64 .i64 n n (by omega) (by omega) (by rw [hz2]; omega) (by omega)
  simp only [Int.toNat_natCast, hz1, Nat.mul_one] at hr
  exact hr

/-- What a check returns: a function that returns the code of each inode. -/
def CheckPost (t : Tr) (k : Nat) (w : World) (e : Ending) (w' : World) : Prop :=
  ∃ g caps, e = .returned (.func (.func g) #[] caps) ∧ Below w.heap.size w w' ∧ (∀ args w, (callFunc g args).run Tryz.prog w = .ok (.enter g args) w) ∧
    ∀ W, Below w'.heap.size w' W → ∀ n, n < t.length → Calls Tryz.prog g (#[.int .i64 (n : Int)] ++ caps) W fun e W' => e = .returned (.int .i64 (codeK t k n)) ∧ Below W.heap.size W W'

theorem eg_field1 : ∀ args w, (callFunc 100 args).run Tryz.prog w = .ok (.enter 100 args) w := enters_of Tryz.func100 (by kernel_rfl) rfl
set_option maxRecDepth 100000 in
set_option maxHeartbeats 400000 in
theorem fieldCheck_any (a : Option Addr) (c : Nat) (t : Tr) (w : World) (h : Nods w w.heap.size a c t) :
    Calls Tryz.prog 56 #[.agg #[.slice a t.length c]] w (CheckPost t 0 w) := by
  have H := Lib.hid h
  clear h
  go_enter Tryz.func56, Tryz.ntmps56
  go_wp2
  go_ret
  refine ⟨_, _, rfl, (Below.refl _ _).alloc (Nat.le_refl _) _, eg_field1, fun W hW n hn => ?_⟩
  have hb : Below w.heap.size w W := ((Below.refl _ _).alloc (Nat.le_refl _) _).trans (hW.mono (by simp))
  exact fieldCheck1_any a c t n w.heap.size W (H.out.up hb) ((One.new w _ _).below hW (by simp)) hn

end Go.Proofs.YtmbbmmnpkdfecaaGreatDoor

/- find and lookUp of package memfs: the binary search for a name in the entries of a directory. Conditions: the slice's cells lie in memory as they read; the list is sorted by name. -/

set_option linter.all false
namespace Go.Proofs.YtmbbmmnpkdfecaaGreatDoor
open Go.RowKit

set_option maxHeartbeats 400000 in
theorem Mfind1_any (x : ByteArray) (y : Int) (b : ByteArray) (w : World) :
    Calls Tryz.prog 182 #[.agg #[.string x, .int .i64 y], .string b] w fun e w' => e = .returned (.int .i64 (FcmpS x b)) ∧ Below w.heap.size w w' := by
  go_enter Tryz.func182, Tryz.ntmps182
  go_wp2_with fail
  refine (FcompareS_any _ _ _).mono ?_
  rintro e w' ⟨rfl, rfl⟩
  go_wp2
  go_ret
  exact ⟨rfl, (Below.refl _ _).alloc (Nat.le_refl _) _⟩
theorem Meg_find1 : ∀ args w, (callFunc 182 args).run Tryz.prog w = .ok (.enter 182 args) w := enters_of Tryz.func182 (by kernel_rfl) rfl

set_option maxRecDepth 100000 in
set_option maxHeartbeats 1000000 in
theorem Mbsearch_any (v : Value) (xs : List DE) (nm : ByteArray) (w : World) (h : DEs w w.heap.size v xs) (hs : SrtE xs) :
    Calls Tryz.prog 95 #[v, .string nm, .func (.func 182) #[] #[]] w fun e w' => e = .returned (.tuple #[.int .i64 (lowE xs nm : Nat), .bool (fndE xs nm)]) ∧ Below w.heap.size w w' := by
  obtain ⟨a, c, rfl, hc, hl, hf, hx⟩ := h
  have eg := Meg_find1
  have HX := Lib.hid hx
  have HS := Lib.hid hs
  have hl2 : xs.length ≤ 4611686018427387904 := by omega
  clear hx hf hs
  have FN0 : Hid (fndE xs nm = decide (lowE xs nm < xs.length ∧ (xs.getD (lowE xs nm) D0).n = nm)) := Lib.hid rfl
  generalize hp : lowE xs nm = p at *
  have HP := Lib.hid hp
  clear hp
  generalize fndE xs nm = q at *
  go_enter Tryz.func95, Tryz.ntmps95
  go_wp2
  go_loopg [9, 10] xs.length (fun gg s9 s10 wr => ∃ i j : Nat, i ≤ j ∧ j ≤ xs.length ∧ j - i ≤ gg ∧ s9 = .int .i64 i ∧ s10 = .int .i64 j ∧ Aside (Below w.heap.size w wr) ∧ Aside ((∀ k, k < i → ltS (xs.getD k D0).n nm = true) ∧ (∀ k, j ≤ k → k < xs.length → ltS (xs.getD k D0).n nm = false)))
  case atStart => exact ⟨0, xs.length, Nat.zero_le _, Nat.le_refl _, by omega, rfl, rfl, Below.refl _ w, (show _ ∧ _ from ⟨fun j hj => absurd hj (Nat.not_lt_zero _), fun k h1 h2 => absurd h1 (by omega)⟩)⟩
  case round =>
    obtain ⟨i, j, hij, hj, hg, rfl, rfl, BW, I⟩ := hrel
    by_cases hlt : i < j
    · have hm : (i + j) / 2 < xs.length := by omega
      obtain ⟨b, o, rfl, hb, hcell⟩ := HX.out (by omega)
      have g0 : wr.cell? ⟨b, o + (i + j) / 2 * 2, none⟩ = some (.string (xs.getD ((i + j) / 2) D0).n) := (BW.out.cell (p := ⟨b, _, none⟩) hb).trans (hcell _ hm).1
      have g1 : wr.cell? ⟨b, o + (i + j) / 2 * 2 + 1, none⟩ = some (.int .i64 (xs.getD ((i + j) / 2) D0).i) := (BW.out.cell (p := ⟨b, _, none⟩) hb).trans (hcell _ hm).2
      clear hcell
      generalize hy : xs.getD ((i + j) / 2) D0 = y at g0 g1
      obtain ⟨x, z⟩ := y
      have Y := Lib.hid hy
      clear hy
      have hcall := fun W => Mfind1_any x z nm W
      have hq := FcmpS_lt (a := x) (b := nm)
      generalize FcmpS x nm = q at hcall hq
      have HQ := Lib.hid hq
      clear hq
      by_cases hq0 : q < 0
      · go_wp2_with (go_at_fn 182; refine (hcall _).mono ?_; rintro e w' ⟨rfl, hb'⟩)
        go_roundg (j - ((i + j) / 2 + 1))
        case measure => omega
        case rel =>
          have hlt2 := HQ.out.1 hq0
          have I2 : Aside ((∀ k, k < (i + j) / 2 + 1 → ltS (xs.getD k D0).n nm = true) ∧ (∀ k, j ≤ k → k < xs.length → ltS (xs.getD k D0).n nm = false)) := by
            refine (show _ ∧ _ from ⟨fun k hk => ?_, I.out.2⟩)
            by_cases e : k = (i + j) / 2
            · subst e; rw [Y.out]; exact hlt2
            · refine ltS_trans (srtE_at HS.out (i := k) (j := (i + j) / 2) (by omega) hm) ?_
              rw [Y.out]; exact hlt2
          exact ⟨(i + j) / 2 + 1, j, by omega, hj, Nat.le_refl _, by rw [show ((i : Int) + (j : Int)) / 2 + 1 = (((i + j) / 2 + 1 : Nat) : Int) by omega], rfl, BW.out.trans (hb'.mono BW.out.size), I2⟩
      · go_wp2_with (go_at_fn 182; refine (hcall _).mono ?_; rintro e w' ⟨rfl, hb'⟩)
        go_roundg ((i + j) / 2 - i)
        case measure => omega
        case rel =>
          have hlt2 : ltS x nm = false := by
            cases hh : ltS x nm with
            | false => rfl
            | true => exact absurd (HQ.out.2 hh) (by omega)
          have I2 : Aside ((∀ k, k < i → ltS (xs.getD k D0).n nm = true) ∧ (∀ k, (i + j) / 2 ≤ k → k < xs.length → ltS (xs.getD k D0).n nm = false)) := by
            refine (show _ ∧ _ from ⟨I.out.1, fun k hk hkl => ?_⟩)
            by_cases e : k = (i + j) / 2
            · subst e; rw [Y.out]; exact hlt2
            · cases hh : ltS (xs.getD k D0).n nm with
              | false => rfl
              | true =>
                have := ltS_trans (srtE_at HS.out (i := (i + j) / 2) (j := k) (by omega) hkl) hh
                rw [Y.out] at this
                simp only at this
                rw [hlt2] at this; cases this
          exact ⟨i, (i + j) / 2, by omega, by omega, Nat.le_refl _, rfl, by rw [show ((i : Int) + (j : Int)) / 2 = (((i + j) / 2 : Nat) : Int) by omega], BW.out.trans (hb'.mono BW.out.size), I2⟩
    · obtain rfl : i = j := by omega
      have ecnt := lowE_of hj I.out.1 I.out.2
      rw [HP.out] at ecnt
      subst ecnt
      have FN := FN0
      clear FN0
      by_cases hn : p < xs.length
      · have hnz : (p : Int) < (xs.length : Int) := by omega
        obtain ⟨b, o, rfl, hb, hcell⟩ := HX.out (by omega)
        have g0 : wr.cell? ⟨b, o + p * 2, none⟩ = some (.string (xs.getD p D0).n) := (BW.out.cell (p := ⟨b, _, none⟩) hb).trans (hcell _ hn).1
        have g1 : wr.cell? ⟨b, o + p * 2 + 1, none⟩ = some (.int .i64 (xs.getD p D0).i) := (BW.out.cell (p := ⟨b, _, none⟩) hb).trans (hcell _ hn).2
        clear hcell
        generalize hy : xs.getD p D0 = y at g0 g1 FN
        obtain ⟨x, z⟩ := y
        clear hy
        simp only [hn, true_and] at FN
        have hcall := fun W => Mfind1_any x z nm W
        have hq := FcmpS_eq (a := x) (b := nm)
        generalize FcmpS x nm = r at hcall hq
        have HQ := Lib.hid hq
        clear hq
        by_cases hr : r = 0
        · have hr1 : (r == 0) = true := by simpa using hr
          have HR := Lib.hid (HQ.out.1 hr)
          clear hr
          go_wp2_with (go_at_fn 182; refine (hcall _).mono ?_; rintro e w' ⟨rfl, hb'⟩)
          go_ret2
          refine ⟨?_, BW.out.trans (hb'.mono BW.out.size)⟩
          rw [FN.out, decide_eq_true HR.out]
          first | rfl | simp
        · have hr1 : (r == 0) = false := by simpa using hr
          have HR := Lib.hid (fun e => hr (HQ.out.2 e))
          clear hr
          go_wp2_with (go_at_fn 182; refine (hcall _).mono ?_; rintro e w' ⟨rfl, hb'⟩)
          go_ret2
          refine ⟨?_, BW.out.trans (hb'.mono BW.out.size)⟩
          rw [FN.out, decide_eq_false HR.out]
          first | rfl | simp
      · have hnd : decide ((p : Int) < (xs.length : Int)) = false := by simp; omega
        have hpp : ¬ ((p : Int) < (p : Int)) := by omega
        have F2 : Hid (q = false) := Lib.hid (by rw [FN.out]; simp [hn])
        clear FN
        go_wp2
        go_ret2
        refine ⟨?_, BW.out⟩
        rw [F2.out]
        first | rfl | simp

theorem Mfind_any (v : Value) (xs : List DE) (nm : ByteArray) (w : World) (h : DEs w w.heap.size v xs) (hs : SrtE xs) :
    Calls Tryz.prog 158 #[v, .string nm] w fun e w' => e = .returned (.tuple #[.int .i64 (lowE xs nm : Nat), .bool (fndE xs nm)]) ∧ Below w.heap.size w w' := by
  have hc := Mbsearch_any v xs nm w h hs
  generalize lowE xs nm = p at *
  generalize fndE xs nm = q at *
  obtain ⟨a, c, rfl, _⟩ := h
  go_enter Tryz.func158, Tryz.ntmps158
  go_wp2_with fail
  refine hc.mono ?_
  rintro e w' ⟨rfl, hb⟩
  go_wp2
  go_ret2
  exact ⟨rfl, hb⟩



set_option maxHeartbeats 800000 in
theorem lookUp_any (v : Value) (xs : List DE) (nm : ByteArray) (w : World) (h : DEs w w.heap.size v xs) (hs : SrtE xs) :
    Calls Tryz.prog 185 #[v, .string nm] w fun e w' => e = .returned (.int .i64 (lookE xs nm)) ∧ Below w.heap.size w w' := by
  have hc := Lib.hid (Mfind_any v xs nm w h hs)
  have HL : Hid (lookE xs nm = if fndE xs nm = true then (xs.getD (lowE xs nm) D0).i else -1) := Lib.hid rfl
  have HF := Lib.hid (fun (hf : fndE xs nm = true) => (fndE_iff.1 hf).1)
  obtain ⟨a, c, rfl, hcap, hlen, _, hx⟩ := h
  have HX := Lib.hid hx
  clear hx
  generalize lookE xs nm = r at *
  generalize lowE xs nm = p at *
  cases hf : fndE xs nm with
  | false =>
    rw [hf, if_neg (by simp)] at HL
    rw [hf] at hc
    clear hf HF HX
    go_enter Tryz.func185, Tryz.ntmps185
    go_wp2_with fail
    refine hc.out.mono ?_
    rintro e w1 ⟨rfl, b1⟩
    go_wp2
    go_ret
    exact ⟨ret_int HL.out.symm, b1⟩
  | true =>
    rw [hf, if_pos rfl] at HL
    have hp := HF.out hf
    rw [hf] at hc
    obtain ⟨b, o, rfl, hb, hj⟩ := HX.out (by omega)
    have g1 := (hj p hp).2
    have hpz : (p : Int) < (xs.length : Int) := by omega
    have hp0 : (0 : Int) ≤ (p : Int) := Int.natCast_nonneg _
    clear hf HF HX hj
    generalize (xs.getD p D0).i = q at *
    go_enter Tryz.func185, Tryz.ntmps185
    go_wp2_with fail
    refine hc.out.mono ?_
    rintro e w1 ⟨rfl, b1⟩
    have g2 := (b1.cell (p := ⟨b, o + p * 2 + 1, none⟩) hb).trans g1
    clear g1
    go_wp2
    go_ret
    exact ⟨ret_int HL.out.symm, b1⟩

end Go.Proofs.YtmbbmmnpkdfecaaGreatDoor

/- cloneTree of package memfs: a tree of the same inodes in memory of the call's own. Conditions: the tree's cells lie in memory as they read; a thousand inodes at the most, each with lists of a thousand at the most. -/

set_option linter.all false
namespace Go.Proofs.YtmbbmmnpkdfecaaGreatDoor
open Go.RowKit

/-! ## What is read, as a list of cells -/
theorem add_plain2 (b o j : Nat) : (⟨b, o, none⟩ : Addr).add j = ⟨b, o + j, none⟩ := by unfold Addr.add; split <;> simp_all
theorem DEs.news {w : World} {B n c : Nat} {a : Option Addr} {es : List DE} (h : DEs w B (.slice a n c) es) : (a = none → n = 0) ∧ n = es.length ∧ ∀ ad, a = some ad → ∀ j u, (flatD es)[j]? = some u → w.cell? (ad.add j) = some u := by
  obtain ⟨a', c', hv, hc, hl, hf, hx⟩ := h
  injection hv with h1 h2 h3
  subst h1 h2 h3
  refine ⟨fun e => ?_, rfl, fun ad e j u hu => ?_⟩
  · rcases Nat.eq_zero_or_pos es.length with h0 | h0
    · exact h0
    · obtain ⟨b, o, ha, _⟩ := hx h0; rw [e] at ha; cases ha
  · have hj := (List.getElem?_eq_some_iff.1 hu).1
    rw [flatD_len] at hj
    obtain ⟨b, o, ha, _, hj2⟩ := hx (by omega)
    rw [e] at ha
    injection ha with ha
    subst ha
    rw [add_plain2]
    obtain ⟨q, hq, hr⟩ : ∃ q, q < es.length ∧ (j = q * 2 ∨ j = q * 2 + 1) := ⟨j / 2, by omega, by omega⟩
    obtain ⟨h1, h2⟩ := flatD_get es q hq
    obtain ⟨g1, g2⟩ := hj2 q hq
    rcases hr with rfl | rfl
    · rw [h1] at hu; injection hu with hu; subst hu; exact g1
    · rw [h2] at hu; injection hu with hu; subst hu; exact g2
theorem Ats.news {w : World} {B n c : Nat} {a : Option Addr} {es : List Attr} (h : Ats w B (.slice a n c) es) : (a = none → n = 0) ∧ n = es.length ∧ ∀ ad, a = some ad → ∀ j u, (flatA es)[j]? = some u → w.cell? (ad.add j) = some u := by
  obtain ⟨a', c', hv, hc, hl, hf, hx⟩ := h
  injection hv with h1 h2 h3
  subst h1 h2 h3
  refine ⟨fun e => ?_, rfl, fun ad e j u hu => ?_⟩
  · rcases Nat.eq_zero_or_pos es.length with h0 | h0
    · exact h0
    · obtain ⟨b, o, ha, _⟩ := hx h0; rw [e] at ha; cases ha
  · have hj := (List.getElem?_eq_some_iff.1 hu).1
    rw [flatA_len] at hj
    obtain ⟨b, o, ha, _, hj2⟩ := hx (by omega)
    rw [e] at ha
    injection ha with ha
    subst ha
    rw [add_plain2]
    obtain ⟨q, hq, hr⟩ : ∃ q, q < es.length ∧ (j = q * 2 ∨ j = q * 2 + 1) := ⟨j / 2, by omega, by omega⟩
    obtain ⟨h1, h2⟩ := flatA_get es q hq
    obtain ⟨g1, g2⟩ := hj2 q hq
    rcases hr with rfl | rfl
    · rw [h1] at hu; injection hu with hu; subst hu; exact g1
    · rw [h2] at hu; injection hu with hu; subst hu; exact g2
theorem Acls.news {w : World} {B n c : Nat} {a : Option Addr} {es : List Ent} (h : Acls w B (.slice a n c) es) : (a = none → n = 0) ∧ n = es.length ∧ ∀ ad, a = some ad → ∀ j u, (flatE es)[j]? = some u → w.cell? (ad.add j) = some u := by
  obtain ⟨a', c', hv, hc, hl, hf, hx⟩ := h
  injection hv with h1 h2 h3
  subst h1 h2 h3
  refine ⟨fun e => ?_, rfl, fun ad e j u hu => ?_⟩
  · rcases Nat.eq_zero_or_pos es.length with h0 | h0
    · exact h0
    · obtain ⟨b, o, ha, _⟩ := hx h0; rw [e] at ha; cases ha
  · have hj := (List.getElem?_eq_some_iff.1 hu).1
    rw [flatE_len] at hj
    obtain ⟨b, o, ha, _, hj2⟩ := hx (by omega)
    rw [e] at ha
    injection ha with ha
    subst ha
    rw [add_plain2]
    obtain ⟨q, hq, hr⟩ : ∃ q, q < es.length ∧ (j = q * 3 ∨ j = q * 3 + 1 ∨ j = q * 3 + 2) := ⟨j / 3, by omega, by omega⟩
    obtain ⟨h1, h2, h3⟩ := flatE_get es q hq
    obtain ⟨g1, g2, g3⟩ := hj2 q hq
    rcases hr with rfl | rfl | rfl
    · rw [h1] at hu; injection hu with hu; subst hu; exact g1
    · rw [h2] at hu; injection hu with hu; subst hu; exact g2
    · rw [h3] at hu; injection hu with hu; subst hu; exact g3
theorem Byts.news {w : World} {B n c : Nat} {a : Option Addr} {d : List UInt8} (h : Byts w B (.slice a n c) d) : (a = none → n = 0) ∧ n = d.length ∧ ∀ ad, a = some ad → ∀ j u, (flatB d)[j]? = some u → w.cell? (ad.add j) = some u := by
  obtain ⟨a', c', hv, hc, hl, hx⟩ := h
  injection hv with h1 h2 h3
  subst h1 h2 h3
  refine ⟨fun e => ?_, rfl, fun ad e j u hu => ?_⟩
  · rcases Nat.eq_zero_or_pos d.length with h0 | h0
    · exact h0
    · obtain ⟨b, o, ha, _⟩ := hx h0; rw [e] at ha; cases ha
  · have hj := (List.getElem?_eq_some_iff.1 hu).1
    have hj : j < d.length := by simpa [flatB] using hj
    obtain ⟨b, o, ha, _, hj2⟩ := hx (by omega)
    rw [e] at ha
    injection ha with ha
    subst ha
    rw [add_plain2, hj2 j hj]
    unfold flatB at hu
    rw [List.getElem?_map, List.getElem?_eq_getElem hj] at hu
    rw [List.getD_eq_getElem?_getD, List.getElem?_eq_getElem hj]
    exact hu
/-- The slice at a reads as the inodes t with their bytes, all of it below block B. -/
structure FNods (w : World) (B : Nat) (a : Option Addr) (c : Nat) (t : FT) : Prop where
  cap : t.length ≤ c
  len : t.length ≤ 35184372088832
  at_ : 0 < t.length → ∃ b o, a = some ⟨b, o, none⟩ ∧ b < B ∧ ∀ j, j < t.length → ∃ s : Sl, NodC w b (o + j * 8) s.e s.d s.a s.x (ino t j).nod ∧ NodS w B s.e s.d s.a s.x (ino t j).nod ∧ Byts w B s.d (ino t j).d
theorem FNods.keep {w w' : World} {B c : Nat} {a : Option Addr} {t : FT} (h : FNods w B a c t) (hk : ∀ b o, b < B → w'.cell? ⟨b, o, none⟩ = w.cell? ⟨b, o, none⟩) : FNods w' B a c t := by
  refine ⟨h.cap, h.len, fun h0 => ?_⟩
  obtain ⟨b, o, ha, hb, hj⟩ := h.at_ h0
  refine ⟨b, o, ha, hb, fun j hjl => ?_⟩
  obtain ⟨s, h1, h2, h3⟩ := hj j hjl
  exact ⟨s, h1.keep fun o => hk b o hb, h2.keep hk, h3.keep hk⟩
theorem FNods.more {w : World} {B B' c : Nat} {a : Option Addr} {t : FT} (h : FNods w B a c t) (hB : B ≤ B') : FNods w B' a c t := by
  refine ⟨h.cap, h.len, fun h0 => ?_⟩
  obtain ⟨b, o, ha, hb, hj⟩ := h.at_ h0
  refine ⟨b, o, ha, by omega, fun j hjl => ?_⟩
  obtain ⟨s, h1, h2, h3⟩ := hj j hjl
  exact ⟨s, h1, h2.more hB, h3.more hB⟩
theorem FNods.up {w w' : World} {c : Nat} {a : Option Addr} {t : FT} (h : FNods w w.heap.size a c t) (hb : Below w.heap.size w w') : FNods w' w'.heap.size a c t :=
  (h.keep fun b o hB => hb.cell (p := ⟨b, o, none⟩) hB).more hb.size
theorem FNods.nods {w : World} {B c : Nat} {a : Option Addr} {t : FT} (h : FNods w B a c t) : Nods w B a c (tr t) := by
  refine ⟨by simpa using h.cap, by simpa using h.len, fun h0 => ?_⟩
  obtain ⟨b, o, ha, hb, hj⟩ := h.at_ (by simpa using h0)
  refine ⟨b, o, ha, hb, fun j hjl => ?_⟩
  obtain ⟨s, h1, h2, _⟩ := hj j (by simpa using hjl)
  rw [nod_tr]
  exact ⟨_, _, _, _, h1, h2⟩
theorem OT.fnods {w : World} {base g cap : Nat} {sl : Nat → Sl} {t : FT} (h : OT w base g cap sl t) : FNods w w.heap.size (some ⟨g, 0, none⟩) cap t := by
  refine ⟨h.cap.1, by have := h.len; omega, fun _ => ⟨g, 0, rfl, h.lt.2, fun j hj => ?_⟩⟩
  rw [Nat.zero_add]
  exact ⟨sl j, h.nodc hj, (h.r j hj).nodS (h.fit j hj), (h.r j hj).byts (h.fit j hj)⟩
theorem nodC_list {w : World} {b o : Nat} {x : Ino} {s : Sl} (h : NodC w b o s.e s.d s.a s.x x.nod) : ∀ i u, (inoL x s)[i]? = some u → w.cell? ⟨b, o + i, none⟩ = some u := by
  intro i u hu
  have hi : i < 8 := (List.getElem?_eq_some_iff.1 hu).1
  match i, hi with
  | 0, _ => injection hu with hu; subst hu; exact h.c0
  | 1, _ => injection hu with hu; subst hu; exact h.c1
  | 2, _ => injection hu with hu; subst hu; exact h.c2
  | 3, _ => injection hu with hu; subst hu; exact h.c3
  | 4, _ => injection hu with hu; subst hu; exact h.c4
  | 5, _ => injection hu with hu; subst hu; exact h.c5
  | 6, _ => injection hu with hu; subst hu; exact h.c6
  | 7, _ => injection hu with hu; subst hu; exact h.c7

/-! ## The cells of a row of inodes -/
def flatN (t : FT) (sl : Nat → Sl) : Nat → List Value
  | 0 => []
  | n + 1 => flatN t sl n ++ inoL (ino t n) (sl n)
theorem flatN_len (t : FT) (sl : Nat → Sl) : ∀ n, (flatN t sl n).length = n * 8
  | 0 => rfl
  | n + 1 => by rw [flatN, List.length_append, flatN_len t sl n]; simp [inoL]; omega
theorem flatN_get (t : FT) (sl : Nat → Sl) : ∀ n j i, j < n → i < 8 → (flatN t sl n)[j * 8 + i]? = (inoL (ino t j) (sl j))[i]?
  | 0, j, i, h, _ => absurd h (by simp)
  | n + 1, j, i, h, hi => by
    rw [flatN, List.getElem?_append]
    rw [flatN_len]
    by_cases e : j < n
    · rw [if_pos (by omega)]; exact flatN_get t sl n j i e hi
    · obtain rfl : j = n := by omega
      rw [if_neg (by omega), show j * 8 + i - j * 8 = i by omega]
theorem inoL_one {x : Ino} {s : Sl} (he : s.e.oneCell' = true) (hd : s.d.oneCell' = true) (ha : s.a.oneCell' = true) (hx : s.x.oneCell' = true) : ∀ u ∈ inoL x s, u.oneCell' = true := by
  intro u hu
  simp only [inoL, List.mem_cons, List.not_mem_nil, or_false] at hu
  rcases hu with rfl | rfl | rfl | rfl | rfl | rfl | rfl | rfl <;> first | rfl | assumption
theorem flatN_one (t : FT) (sl : Nat → Sl) : ∀ n, (∀ j, j < n → ∀ u ∈ inoL (ino t j) (sl j), u.oneCell' = true) → ∀ u ∈ flatN t sl n, u.oneCell' = true
  | 0, _, u, hu => by cases hu
  | n + 1, h, u, hu => by
    rw [flatN] at hu
    rcases List.mem_append.1 hu with hu | hu
    · exact flatN_one t sl n (fun j hj => h j (by omega)) u hu
    · exact h n (by omega) u hu

/-! ## A tree that is being copied -/
structure CT (w : World) (base g cap : Nat) (sl : Nat → Sl) (t : FT) (k : Nat) : Prop where
  own : ∃ cs, w.ownsRow base 63 8 (.slice (some ⟨g, 0, none⟩) t.length cap) t.length cs
  c : ∀ j, j < t.length → ∀ i u, (inoL (ino t j) (sl j))[i]? = some u → w.cell? ⟨g, j * 8 + i, none⟩ = some u
  r : ∀ j, j < k → Rws w base (sl j) (ino t j)
  ne : ∀ i j, i < k → j < k → i ≠ j → ∀ b, (sl i).e.ownBlock = some b → (sl j).e.ownBlock ≠ some b
theorem CT.lt {w : World} {base g cap k : Nat} {sl : Nat → Sl} {t : FT} (h : CT w base g cap sl t k) : base ≤ g ∧ g < w.heap.size := by
  obtain ⟨cs, h⟩ := h.own
  exact h.lt g rfl
theorem CT.frozen {w : World} {base g cap k : Nat} {sl : Nat → Sl} {t : FT} (h : CT w base g cap sl t k) (j : Nat) : w.frozen? ⟨g, j, none⟩ = false := by
  obtain ⟨cs, h⟩ := h.own
  exact h.frozenAt j
theorem CT.up {w w' : World} {base g cap k : Nat} {sl : Nat → Sl} {t : FT} (h : CT w base g cap sl t k) (hb : Below w.heap.size w w') : CT w' base g cap sl t k := by
  obtain ⟨cs, ho⟩ := h.own
  refine ⟨⟨cs, own_kept ho (grown_below hb) (fun g e => by cases e)⟩, fun j hj i u hu => ?_, fun j hj => (h.r j hj).up hb, h.ne⟩
  exact (hb.cell (p := ⟨g, j * 8 + i, none⟩) h.lt.2).trans (h.c j hj i u hu)
theorem CT.apart {w : World} {base g cap k : Nat} {sl : Nat → Sl} {t : FT} (h : CT w base g cap sl t k) {base' : Nat} {s : Sl} {x : Ino} (hr : Rws w base' s x) : s.e.ownBlock ≠ some g ∧ s.d.ownBlock ≠ some g ∧ s.a.ownBlock ≠ some g ∧ s.x.ownBlock ≠ some g := by
  obtain ⟨cs, ho⟩ := h.own
  exact ⟨own_apart ho hr.e (by decide) rfl, own_apart ho hr.d (by decide) rfl, own_apart ho hr.a (by decide) rfl, own_apart ho hr.x (by decide) rfl⟩
/-- A store into the inode that is being copied. -/
theorem CT.store {w : World} {base g cap k : Nat} {sl : Nat → Sl} {t : FT} (h : CT w base g cap sl t k) (hk : k < t.length) {i : Nat} (hi : i < 8) (u : Value) (s' : Sl)
    (hc : inoL (ino t k) s' = (inoL (ino t k) (sl k)).set i u) :
    CT (w.setCell ⟨g, k * 8 + i, none⟩ u) base g cap (upd sl k s') t k ∧ w.grownBy (w.setCell ⟨g, k * 8 + i, none⟩ u) (some g) := by
  obtain ⟨cs, ho⟩ := h.own
  obtain ⟨ho2, hg⟩ := ho.stored (k * 8 + i) u
  have hcell : ∀ j, j < t.length → ∀ m v, (inoL (ino t j) (sl j))[m]? = some v → ¬ (j = k ∧ m = i) → (w.setCell ⟨g, k * 8 + i, none⟩ u).cell? ⟨g, j * 8 + m, none⟩ = some v := by
    intro j hj m v hv hn
    have hm : m < 8 := (List.getElem?_eq_some_iff.1 hv).1
    refine (World.cell?_setCell_other w _ _ u (fun e => hn ?_)).trans (h.c j hj m v hv)
    have e := congrArg Addr.off e
    simp at e
    omega
  refine ⟨⟨⟨_, ho2⟩, fun j hj m v hv => ?_, fun j hj => ?_, fun a b ha hb hab q hq => ?_⟩, hg⟩
  · unfold upd at hv
    by_cases e : j = k
    · subst e
      simp only [if_true] at hv
      rw [hc, List.getElem?_set] at hv
      by_cases e2 : i = m
      · subst e2
        rw [if_pos rfl, if_pos (show i < (inoL (ino t j) (sl j)).length by simp [inoL]; omega)] at hv
        injection hv with hv
        subst hv
        obtain ⟨v0, hv0⟩ : ∃ v0, (inoL (ino t j) (sl j))[i]? = some v0 := ⟨_, List.getElem?_eq_getElem (show i < (inoL (ino t j) (sl j)).length by simp [inoL]; omega)⟩
        exact World.cell?_setCell_same w _ u (h.c j hj i v0 hv0)
      · rw [if_neg e2] at hv
        exact hcell j hj m v hv (fun e => e2 e.2.symm)
    · simp only [if_neg e] at hv
      exact hcell j hj m v hv (fun e3 => e e3.1)
  · unfold upd
    rw [if_neg (by omega)]
    exact (h.r j hj).grown hg (fun b e => by injection e with e; subst e; exact h.apart (h.r j hj))
  · unfold upd at hq ⊢
    rw [if_neg (by omega)] at hq ⊢
    exact h.ne a b ha hb hab q hq
theorem CT.step {w : World} {base g cap k : Nat} {sl : Nat → Sl} {t : FT} (h : CT w base g cap sl t k) (hr : Rws w base (sl k) (ino t k)) (hne : ∀ j, j < k → ∀ b, (sl j).e.ownBlock = some b → (sl k).e.ownBlock ≠ some b) : CT w base g cap sl t (k + 1) := by
  refine ⟨h.own, h.c, fun j hj => ?_, fun a b ha hb hab q hq => ?_⟩
  · by_cases e : j = k
    · subst e; exact hr
    · exact h.r j (by omega)
  · by_cases e1 : a = k
    · subst e1
      intro hx
      exact hne b (by omega) q hx hq
    · by_cases e2 : b = k
      · subst e2; exact hne a (by omega) q hq
      · exact h.ne a b (by omega) (by omega) hab q hq
theorem CT.done {w : World} {base g cap : Nat} {sl : Nat → Sl} {t : FT} (h : CT w base g cap sl t t.length) (hf : ∀ j, j < t.length → Fit (ino t j)) (hl : t.length ≤ 1000) : OT w base g cap sl t :=
  ⟨h.own, h.c, h.r, h.ne, hf, hl⟩

end Go.Proofs.YtmbbmmnpkdfecaaGreatDoor

/- referenceCheck: how many entries refer to each inode, and the function that it returns. Conditions: the tree's inodes are valid by themselves; its cells lie in memory as they read. -/

set_option linter.all false
namespace Go.Proofs.YtmbbmmnpkdfecaaGreatDoor
open Go.RowKit

def cntE (l : List DE) (n : Nat) : Nat := l.countP fun e => decide (e.i = (n : Int))
theorem cntE_snoc (l : List DE) (e : DE) (n : Nat) : cntE (l ++ [e]) n = cntE l n + if e.i = (n : Int) then 1 else 0 := by
  unfold cntE
  rw [List.countP_append]
  by_cases h : e.i = (n : Int) <;> simp [h]
/-- The entries ahead of entry k of inode i. -/
def upto (t : Tr) (i k : Nat) : List DE := (t.take i).flatMap (·.es) ++ (kids t i).take k
theorem upto_zero (t : Tr) : upto t 0 0 = [] := by unfold upto; simp
theorem upto_succ {t : Tr} {i k : Nat} (h : k < (kids t i).length) : upto t i (k + 1) = upto t i k ++ [(kids t i).getD k D0] := by
  unfold upto
  rw [List.take_succ_eq_append_getElem h, deD h, List.append_assoc]
theorem upto_next {t : Tr} {i : Nat} (h : i < t.length) : upto t i (kids t i).length = upto t (i + 1) 0 := by
  unfold upto
  rw [List.take_length, List.take_succ_eq_append_getElem h, List.flatMap_append, List.take_zero, List.append_nil]
  simp [kids, nod_at h]
theorem upto_all (t : Tr) (n : Nat) : cntE (upto t t.length 0) n = refs t n := by
  unfold upto refs cntE
  rw [List.take_length, List.take_zero, List.append_nil]
theorem cnt_le {t : Tr} (h : Ok1 t) (i k n : Nat) (hi : i ≤ t.length) : cntE (upto t i k) n ≤ 1000 := by
  have h1 : cntE (upto t i k) n ≤ (upto t i k).length := List.countP_le_length
  have h2 : (upto t i k).length ≤ 16 * i + 16 := by
    unfold upto
    rw [List.length_append, List.length_take]
    have h3 : ((t.take i).flatMap (·.es)).length ≤ (t.take i).length * 16 := by
      rw [List.length_flatMap]
      have := sum_le_mul (l := (t.take i).map fun x => x.es.length) (m := 16) (by
        intro x hx
        obtain ⟨y, hy, rfl⟩ := List.mem_map.1 hx
        obtain ⟨j, hj, rfl⟩ := List.mem_iff_getElem.1 (List.mem_of_mem_take hy)
        rw [← nod_at hj]
        exact (h.fine j).len)
      simpa using this
    have h4 := (h.fine i).len
    change (kids t i).length ≤ 16 at h4
    rw [List.length_take] at h3
    omega
  have := h.le
  omega

set_option maxRecDepth 100000 in
set_option maxHeartbeats 1600000 in
theorem refCheck1_any (a : Option Addr) (c : Nat) (t : Tr) (n pt pr R : Nat) (w : World) (h1 : Ok1 t) (h : Nods w w.heap.size a c t) (hp : One w pt (.slice a t.length c)) (hr : One w pr (.slice (some ⟨R, 0, none⟩) t.length t.length)) (hR : Row w R t.length (fun j => .int .i64 (refs t j : Nat))) (hn : n < t.length) :
    Calls Tryz.prog 107 #[.int .i64 (n : Int), .pointer (some ⟨pt, 0, none⟩), .pointer (some ⟨pr, 0, none⟩)] w fun e w' => e = .returned (.int .i64 (codeLk t n)) ∧ Below w.heap.size w w' := by
  obtain ⟨b, o, ve, vd, va, vx, rfl, hb, hc, hs⟩ := h.one hn
  have hk := (h1.fine n).kind
  have nlz : (n : Int) < (t.length : Int) := by omega
  have nz : (0 : Int) ≤ (n : Int) := Int.natCast_nonneg _
  have HF := Lib.hid (show codeLk t n = if ((nod t n).k = 1 ∧ n ≠ 0 ∧ refs t n ≠ 1) ∨ ((nod t n).k = 2 ∧ refs t n = 0) then 11 else 0 from rfl)
  have h0 := hc.c0
  have hpc := hp.c0
  have hrc := hr.c0
  have hRc := hR.c n hn
  clear hc hs h hp hr hR h1
  generalize codeLk t n = r at *
  generalize refs t n = q at *
  generalize (nod t n).k = k at *
  rcases hk with rfl | rfl | rfl
  · rw [if_neg (by rintro (h | h); exact absurd h.1 (by decide); exact absurd h.1 (by decide))] at HF
    go_enter Tryz.func107, Tryz.ntmps107
    go_wp2
    go_ret
    exact ⟨ret_int HF.out.symm, Below.refl _ _⟩
  · by_cases hn0 : n = 0
    · subst hn0
      rw [if_neg (by rintro (h | h); exact h.2.1 rfl; exact absurd h.1 (by decide))] at HF
      have hx : (((0 : Nat) : Int) != 0) = false := by decide
      have h0 : w.cell? ⟨b, o, none⟩ = some (.int .i64 1) := by simpa using h0
      go_enter Tryz.func107, Tryz.ntmps107
      go_wp2
      go_ret
      exact ⟨ret_int HF.out.symm, Below.refl _ _⟩
    · have hx : ((n : Int) != 0) = true := by simpa using hn0
      by_cases hq : q = 1
      · subst hq
        rw [if_neg (by rintro (h | h); exact h.2.2 rfl; exact absurd h.1 (by decide))] at HF
        clear hn0
        go_enter Tryz.func107, Tryz.ntmps107
        go_wp2
        go_ret
        exact ⟨ret_int HF.out.symm, Below.refl _ _⟩
      · have hy : ((q : Int) != 1) = true := by rw [bne_iff_ne]; omega
        rw [if_pos (.inl ⟨rfl, hn0, hq⟩)] at HF
        clear hn0 hq
        go_enter Tryz.func107, Tryz.ntmps107
        go_wp2
        go_ret
        exact ⟨ret_int HF.out.symm, Below.refl _ _⟩
  · by_cases hq : q = 0
    · subst hq
      rw [if_pos (.inr ⟨rfl, rfl⟩)] at HF
      have hy : (((0 : Nat) : Int) == 0) = true := by decide
      go_enter Tryz.func107, Tryz.ntmps107
      go_wp2
      go_ret
      exact ⟨ret_int HF.out.symm, Below.refl _ _⟩
    · have hy : ((q : Int) == 0) = false := by rw [beq_eq_false_iff_ne]; omega
      rw [if_neg (by rintro (h | h); exact absurd h.1 (by decide); exact hq h.2)] at HF
      clear hq
      go_enter Tryz.func107, Tryz.ntmps107
      go_wp2
      go_ret
      exact ⟨ret_int HF.out.symm, Below.refl _ _⟩

theorem eg_ref1 : ∀ args w, (callFunc 107 args).run Tryz.prog w = .ok (.enter 107 args) w := enters_of Tryz.func107 (by kernel_rfl) rfl
/-- What holds while the entries are counted. -/
structure RInv (w wr : World) (t : Tr) (a : Option Addr) (c pt R pr i k : Nat) : Prop where
  b : Below w.heap.size w wr
  tb : One wr pt (.slice a t.length c)
  rb : One wr pr (.slice (some ⟨R, 0, none⟩) t.length t.length)
  row : Row wr R t.length (fun j => .int .i64 (cntE (upto t i k) j : Nat))
theorem RInv.step {w wr z : World} {t : Tr} {a : Option Addr} {c pt R pr i k : Nat} (h : RInv w wr t a c pt R pr i k) (hb : Below wr.heap.size wr z) : RInv w z t a c pt R pr i k :=
  ⟨h.b.trans (hb.mono h.b.size), h.tb.below hb h.tb.lt, h.rb.below hb h.rb.lt, h.row.below hb h.row.lt⟩
theorem RInv.cnt {w wr : World} {t : Tr} {a : Option Addr} {c pt R pr i k : Nat} (h : RInv w wr t a c pt R pr i k) (hw : w.heap.size ≤ R) (h1 : R ≠ pt) (h2 : R ≠ pr) {x : ByteArray} {m : Nat} (hk : k < (kids t i).length) (he : (kids t i).getD k D0 = ⟨x, (m : Int)⟩) (hm : m < t.length) {u : Int} (hu : u = (cntE (upto t i k) m : Nat) + 1) :
    RInv w (wr.setCell ⟨R, m, none⟩ (.int .i64 u)) t a c pt R pr i (k + 1) := by
  refine ⟨h.b.setCell hw _, h.tb.far (by simpa using h1.symm) _, h.rb.far (by simpa using h2.symm) _, (h.row.put hm _).ext fun j hj => ?_⟩
  rw [upto_succ hk, cntE_snoc, he]
  simp only
  by_cases e : j = m
  · subst e; rw [if_pos rfl, if_pos rfl, hu]; congr 1
  · rw [if_neg e, if_neg (by omega)]; congr 1

set_option maxRecDepth 100000 in
set_option maxHeartbeats 3200000 in
theorem referenceCheck_any (a : Option Addr) (c : Nat) (t : Tr) (w : World) (h1 : Ok1 t) (h : Nods w w.heap.size a c t) :
    Calls Tryz.prog 57 #[.agg #[.slice a t.length c]] w (CheckPost t 1 w) := by
  have H := Lib.hid h
  have H1 := Lib.hid h1
  have hmk := make_ints t.length h1.le
  have h40 := h1.le
  clear h h1
  go_enter Tryz.func57, Tryz.ntmps57
  go_wp2_with fail
  have I0 := Lib.hid (show RInv w (((w.alloc (.cells #[.slice a t.length c] 24)).alloc (.cells (madeCells #[.int .i64 0] t.length) 3)).alloc (.cells #[.slice (some ⟨w.heap.size + 1, 0, none⟩) t.length t.length] 67)) t a c w.heap.size (w.heap.size + 1) (w.heap.size + 1 + 1) 0 0 from
    ⟨(((Below.refl _ _).alloc (Nat.le_refl _) _).alloc (by first | omega | (simp; done) | (simp; omega)) _).alloc (by first | omega | (simp; done) | (simp; omega)) _, ((One.new w _ _).alloc _).alloc _, (One.new ((w.alloc _).alloc _) _ _).at_ (by simp), (((row_new (w.alloc _) t.length (.int .i64 0) _).alloc _).at_ (by simp)).ext (fun j _ => by rw [upto_zero]; rfl)⟩)
  have o1 : w.heap.size < w.heap.size + 1 := by omega
  have o2 : w.heap.size + 1 < w.heap.size + 1 + 1 := by omega
  generalize w.heap.size + 1 + 1 = pr at *
  generalize w.heap.size + 1 = R at *
  go_loopg [5, 7, 15] t.length (fun gg _ _ s15 wr => ∃ i : Nat, i ≤ t.length ∧ t.length - i ≤ gg ∧ s15 = .int .i64 i ∧ Aside (RInv w wr t a c w.heap.size R pr i 0))
  case atStart => exact ⟨0, by omega, by omega, rfl, I0.out⟩
  case round =>
    obtain ⟨i, hi, hg, rfl, I⟩ := hrel
    clear I0
    obtain ⟨w2, rfl⟩ : ∃ w2 : World, w2 = wr := ⟨_, rfl⟩
    by_cases hlt : i < t.length
    · have hltz : (i : Int) < (t.length : Int) := by omega
      have hm9 : t.length - (i + 1) < t.length - i := Nat.sub_lt_sub_left hlt (Nat.lt_succ_self i)
      obtain ⟨b, o, ve, vd, va, vx, rfl, hb, hc, hs⟩ := (H.out.below I.out.b).one hlt
      obtain ⟨ea, ec, rfl, hec, hel, hef, hex⟩ := hs.es
      obtain ⟨da, dc, rfl, _⟩ := hs.dl
      obtain ⟨aa, acp, rfl, _⟩ := hs.ac
      obtain ⟨xa, xc, rfl, _⟩ := hs.xs
      have h0 := hc.c0
      have h1 := hc.c1
      have h2 := hc.c2
      have h3 := hc.c3
      have h4 := hc.c4
      have h5 := hc.c5
      have h6 := hc.c6
      have h7 := hc.c7
      change (kids t i).length ≤ ec at hec
      change (kids t i).length ≤ 35184372088832 at hel
      change w2.cell? ⟨b, o + i * 8 + 2, none⟩ = some (.slice ea (kids t i).length ec) at h2
      have HEX := Lib.hid (show 0 < (kids t i).length → ∃ b o, ea = some ⟨b, o, none⟩ ∧ b < w.heap.size ∧ ∀ j, j < (kids t i).length →
        w2.cell? ⟨b, o + j * 2, none⟩ = some (.string ((kids t i).getD j D0).n) ∧ w2.cell? ⟨b, o + j * 2 + 1, none⟩ = some (.int .i64 ((kids t i).getD j D0).i) from hex)
      have HKD := Lib.hid (fun k (hk : k < (kids t i).length) => H1.out.kid (show (kids t i).getD k D0 ∈ kids t i from by rw [deD hk]; exact List.getElem_mem hk))
      have HCL := Lib.hid (fun k q => cnt_le H1.out i k q hi)
      have HUN := Lib.hid (upto_next hlt)
      clear hc hs hef hex
      have hbs := I.out.b.size
      generalize hm : (kids t i).length = m at *
      generalize (nod t i).k = gk at *
      generalize (nod t i).o = go at *
      generalize (nod t i).dl = gd at *
      generalize (nod t i).ac.length = ga at *
      generalize (nod t i).xs.length = gx at *
      generalize (nod t i).q = gq at *
      generalize (nod t i).v = gv at *
      have I1 := Lib.hid (I.out.step ((Below.refl w2.heap.size w2).alloc (Nat.le_refl _) (.cells #[.int .i64 gk, .int .i64 go, .slice ea m ec, .slice da gd dc, .slice aa ga acp, .slice xa gx xc, .int .i64 gq, .int .i64 gv] 63)))
      have W1 := Lib.hid ((Below.refl w2.heap.size w2).alloc (Nat.le_refl _) (.cells #[.int .i64 gk, .int .i64 go, .slice ea m ec, .slice da gd dc, .slice aa ga acp, .slice xa gx xc, .int .i64 gq, .int .i64 gv] 63))
      go_wp2_with fail
      go_loopg [7, 22] m (fun gg _ s22 wq => ∃ k : Nat, k ≤ m ∧ m - k ≤ gg ∧ s22 = .int .i64 k ∧ Aside (Below w.heap.size w2 wq) ∧ Aside (RInv w wq t (some ⟨b, o, none⟩) c w.heap.size R pr i k))
      case atStart => exact ⟨0, by omega, by omega, rfl, W1.out.mono hbs, I1.out⟩
      case round =>
        obtain ⟨k, hk, hg2, rfl, WQ, IQ⟩ := hrel
        clear I1 W1
        by_cases hlk : k < m
        · have hlkz : (k : Int) < (m : Int) := by omega
          obtain ⟨be, oe, rfl, hbe, hje⟩ := HEX.out (by omega)
          have g0 := (WQ.out.cell (p := ⟨be, oe + k * 2, none⟩) hbe).trans (hje k hlk).1
          have g1 := (WQ.out.cell (p := ⟨be, oe + k * 2 + 1, none⟩) hbe).trans (hje k hlk).2
          have hkd := HKD.out k hlk
          have q2 := hkd.2.1
          have q3 := hkd.2.2.1
          clear hkd
          have hcb := fun q => HCL.out k q
          clear hje
          generalize hy : (kids t i).getD k D0 = e at *
          obtain ⟨x, ei⟩ := e
          simp only at g0 g1 q2 q3
          obtain ⟨n2, rfl⟩ := Int.eq_ofNat_of_zero_le (Int.le_of_lt q2)
          simp only [Int.toNat_natCast] at q3
          have Y := Lib.hid hy
          clear hy q2
          have IX := Lib.hid (IQ.out.step ((Below.refl wr.heap.size wr).alloc (Nat.le_refl _) (.cells #[.string x, .int .i64 (n2 : Int)] 93)))
          have hcq := hcb n2
          have rc := IX.out.row.c n2 q3
          have rz := IX.out.row.fz n2
          have rl := IX.out.row.lt
          have rb := IX.out.rb.c0
          have rbl := IX.out.rb.lt
          clear hcb
          generalize hq : cntE (upto t i k) n2 = q at *
          have HQ := Lib.hid hq
          clear hq
          have n2z : (n2 : Int) < (t.length : Int) := by omega
          have n20 : (0 : Int) ≤ (n2 : Int) := Int.natCast_nonneg _
          go_wp2
          go_roundg (m - (k + 1))
          case measure => omega
          case rel =>
            refine ⟨k + 1, by omega, by omega, by go_num, ?_, IX.out.cnt (by omega) (by omega) (by omega) (by omega) Y.out q3 (by rw [HQ.out])⟩
            exact (show Below w.heap.size w2 _ from ((WQ.out.alloc (Nat.le_trans hbs WQ.out.size) _).setCell (by first | omega | (simp; done) | (simp; omega)) _))
        · obtain rfl : k = m := by omega
          have IE := Lib.hid (show RInv w wr t (some ⟨b, o, none⟩) c w.heap.size R pr (i + 1) 0 from ⟨IQ.out.b, IQ.out.tb, IQ.out.rb, by rw [← HUN.out]; exact IQ.out.row⟩)
          go_wp2
          go_roundg (t.length - (i + 1))
          case measure => exact Nat.lt_of_lt_of_le hm9 hg
          case rel => exact ⟨i + 1, by omega, by omega, by go_num, IE.out⟩
    · obtain rfl : i = t.length := by omega
      go_wp2
      go_ret
      refine ⟨_, _, rfl, I.out.b, eg_ref1, fun W hW n hn => ?_⟩
      have Z := I.out.step hW
      exact refCheck1_any a c t n w.heap.size pr R W H1.out (H.out.up Z.b) Z.tb Z.rb (Z.row.ext fun j _ => by rw [upto_all]) hn

end Go.Proofs.YtmbbmmnpkdfecaaGreatDoor

/- slices.Insert of one entry into a row of entries that the call owns: its four roads, each as an equation. Conditions: the place lies within the row; the entry's own cells lie in a block of their own, apart from the row. -/

set_option linter.all false
namespace Go.Proofs.YtmbbmmnpkdfecaaGreatDoor
open Go.RowKit

theorem info_de : ∃ i, Tryz.prog.info? 93 = some i ∧ i.zero = some (.agg #[.string ⟨#[]⟩, .int .i64 0]) ∧ i.size = 2 ∧ i.bytes = 24 := info_parts (by kernel_rfl)
theorem u_de : Tryz.prog.underlying 60 = some (.slice 93) := Tryz.underlying60

theorem heap_alloc_last' (w : World) (o : Obj) : (w.alloc o).heap[w.heap.size]? = some o := by
  unfold World.alloc; simp
theorem heap_alloc_old' (w : World) (o : Obj) (i : Nat) (h : i < w.heap.size) : (w.alloc o).heap[i]? = w.heap[i]? := by
  unfold World.alloc; simp [Array.getElem?_push]; omega

theorem cell_row {w : World} {g : Nat} {cur : Array Value} {t : TypeId} {fz : Nat × Nat} (h : w.heap[g]? = some (.cells cur t fz)) (j : Nat) : w.cell? ⟨g, j, none⟩ = cur[j]? := by
  unfold World.cell?
  simp [h]

set_option maxHeartbeats 3200000 in
set_option maxRecDepth 100000 in
/-- At the end, there is room: in place. -/
theorem insert_end_room (g n c vb vc : Nat) (cur : Array Value) (x y : Value) (w : World) (hg : w.heap[g]? = some (.cells cur 93 (0, 0))) (hroom : n + 1 ≤ c) (hc : c ≤ maxLen) (hcs : cur.size = c * 2)
    (hx : w.cell? ⟨vb, 0, none⟩ = some x) (hy : w.cell? ⟨vb, 1, none⟩ = some y) (h1 : x.oneCell' = true) (h2 : y.oneCell' = true) :
    Calls Tryz.prog 159 #[.slice (some ⟨g, 0, none⟩) n c, .int .i64 n, .slice (some ⟨vb, 0, none⟩) 1 vc] w fun en w' =>
      en = .returned (.slice (some ⟨g, 0, none⟩) (n + 1) c) ∧ w' = w.setRow g (splice cur.toList (n * 2) [x, y]).toArray := by
  obtain ⟨i0, hi, hz0, hz1, hz2⟩ := info_de
  unfold maxLen at hc
  have hz1' : ¬ ((1 : Int) = 0) := by decide
  have hr : ∀ ty, (Builtin.append_ #[60, 60] ty #[.slice (some ⟨g, 0, none⟩) n c, .slice (some ⟨vb, 0, none⟩) 1 vc]).run Tryz.prog w = _ := fun ty =>
    run_append_room2 w 60 ty 93 i0 u_de hi hz1 g n c 1 vc ⟨vb, 0, none⟩ cur _ hg [x, y] rfl
      (fun j u hj => by
        match j, hj with
        | 0, hj => cases hj; exact hx
        | 1, hj => cases hj; exact hy) (by intro v hv; simp at hv; rcases hv with rfl | rfl <;> assumption) hroom (by omega)
  go_enter Tryz.func159, Tryz.ntmps159
  go_wp2_with (at_builtin; refine Lib.wpList_append_run _ rfl _ _ _ _ rfl _ _ rfl rfl _ _ (hr _) ?_)
  go_ret
  exact ⟨rfl, rfl⟩

set_option maxHeartbeats 3200000 in
set_option maxRecDepth 100000 in
/-- At the end, there is no room (the nil row too): a new row. -/
theorem insert_end_grow (base : Option Addr) (n c vb vc : Nat) (old : List Value) (x y : Value) (w : World) (hgrow : c < n + 1) (hnc : n ≤ c) (hsm : n ≤ 1000) (hol : old.length = n * 2) (hnil : base = none → n = 0)
    (hold : ∀ a, base = some a → ∀ j v, old[j]? = some v → w.cell? (a.add j) = some v)
    (hx : w.cell? ⟨vb, 0, none⟩ = some x) (hy : w.cell? ⟨vb, 1, none⟩ = some y) :
    Calls Tryz.prog 159 #[.slice base n c, .int .i64 n, .slice (some ⟨vb, 0, none⟩) 1 vc] w fun en w' =>
      en = .returned (.slice (some ⟨w.heap.size, 0, none⟩) (n + 1) (grownCap w (n + 1) c 93)) ∧
      w' = w.drew.alloc (.cells (old.toArray ++ [x, y].toArray ++ Builtin.zeroCells #[.string ⟨#[]⟩, .int .i64 0] (grownCap w (n + 1) c 93 - (n + 1))) 93) := by
  obtain ⟨i0, hi, hz0, hz1, hz2⟩ := info_de
  have hr : ∀ ty, (Builtin.append_ #[60, 60] ty #[.slice base n c, .slice (some ⟨vb, 0, none⟩) 1 vc]).run Tryz.prog w = _ := fun ty =>
    run_append_grow2 w 60 ty 93 i0 _ _ u_de hi hz0 hz1 hz2 base n c 1 vc ⟨vb, 0, none⟩ old hol hnil hold [x, y] rfl
      (fun j u hj => by
        match j, hj with
        | 0, hj => cases hj; exact hx
        | 1, hj => cases hj; exact hy) hgrow (by omega)
  have hz1' : ¬ ((1 : Int) = 0) := by decide
  go_enter Tryz.func159, Tryz.ntmps159
  cases base with
  | none =>
    have h0 := hnil rfl
    subst h0
    go_wp2_with (at_builtin; refine Lib.wpList_append_run _ rfl _ _ _ _ rfl _ _ rfl rfl _ _ (hr _) ?_)
    go_ret
    exact ⟨rfl, rfl⟩
  | some a =>
    obtain ⟨ab, ao, asp⟩ := a
    go_wp2_with (at_builtin; refine Lib.wpList_append_run _ rfl _ _ _ _ rfl _ _ rfl rfl _ _ (hr _) ?_)
    all_goals (go_ret; exact ⟨rfl, rfl⟩)

theorem splice_mid {α : Type} (F1 F2 R E : List α) (hE : E.length ≤ R.length) : ∃ R', splice (splice (F1 ++ (F2 ++ R)) (F1.length + E.length) F2) F1.length E = F1 ++ (E ++ (F2 ++ R')) := by
  refine ⟨(F1 ++ (F2 ++ R)).drop (F1.length + E.length + F2.length), ?_⟩
  have h1 : ((F1 ++ (F2 ++ R)).take (F1.length + E.length)).length = F1.length + E.length := by
    rw [List.length_take]; simp only [List.length_append]; omega
  unfold splice
  congr 1
  · rw [List.take_append_of_le_length (by rw [h1]; omega), List.take_take, Nat.min_eq_left (by omega), List.take_left']
    rfl
  · congr 1
    rw [List.drop_append_of_le_length (by rw [h1]; omega), List.drop_of_length_le (by rw [h1]; omega), List.nil_append]

theorem splice_size {α : Type} (L cs : List α) (o : Nat) (h : o + cs.length ≤ L.length) : (splice L o cs).length = L.length := by
  unfold splice; simp only [List.length_append, List.length_take, List.length_drop]; omega

set_option maxHeartbeats 6400000 in
set_option maxRecDepth 100000 in
/-- In the middle, there is room: in place. -/
theorem insert_mid_room (g n c i vb : Nat) (cur : Array Value) (F1 F2 R : List Value) (x y : Value) (vcs : Array Value) (vt : TypeId) (w : World) (hg : w.heap[g]? = some (.cells cur 93 (0, 0))) (hi : i < n) (hroom : n + 1 ≤ c) (hc : c ≤ maxLen)
    (hcs : cur.toList = F1 ++ (F2 ++ R)) (l1 : F1.length = i * 2) (l2 : F2.length = (n - i) * 2) (l3 : R.length = (c - n) * 2) (hone : ∀ v ∈ F2, v.oneCell' = true)
    (hv : w.heap[vb]? = some (.cells vcs vt (0, 0))) (hx : vcs[0]? = some x) (hy : vcs[1]? = some y) (hvs : vcs.size = 2) (hne : vb ≠ g) (h1 : x.oneCell' = true) (h2 : y.oneCell' = true) :
    Calls Tryz.prog 159 #[.slice (some ⟨g, 0, none⟩) n c, .int .i64 i, .slice (some ⟨vb, 0, none⟩) 1 1] w fun en w' =>
      en = .returned (.slice (some ⟨g, 0, none⟩) (n + 1) c) ∧ w' = (w.drew.setRow g (splice cur.toList (i * 2 + 2) F2).toArray).setRow g (splice (splice cur.toList (i * 2 + 2) F2) (i * 2) [x, y]).toArray := by
  obtain ⟨i0, hi0, hz0, hz1, hz2⟩ := info_de
  unfold maxLen at hc
  have hsz : (Tryz.prog.info? 93).map (·.size) = some 2 := by rw [hi0]; simp [hz1]
  have hcl : cur.size = c * 2 := by
    have := congrArg List.length hcs
    simp only [Array.length_toList, List.length_append] at this
    omega
  have hov : ∀ lb cb, (callFunc 183 #[.slice (some ⟨vb, 0, none⟩) 1 1, .slice (some ⟨g, (i + 1) * 2, none⟩) lb cb]).run Tryz.prog w = .ok (.value (.bool false)) w := fun lb cb => by
    rw [run_callFunc_extern Tryz.func183 (by kernel_rfl) (by kernel_rfl) (by kernel_rfl) (e := Extern.SlicesOverlaps.overlaps #[60, 60] #[4]) (by kernel_rfl),
      Lib.run_overlaps_apart w 60 4 93 u_de 2 (fun w => by simp [sizeOf, typeInfo, hi0, hz1]) ⟨vb, 0, none⟩ ⟨g, (i + 1) * 2, none⟩ 1 1 lb cb hne vt 93 2 cur.size
        (by simp [World.shape?, hv, hvs]) (by simp [World.shape?, hg]) (by omega) (by simp [World.frozen?, hv]) (by simp [World.frozen?, hv])]
    rfl
  have hcp1 : ∀ ty dc sc, (Builtin.copy_ #[60, 60] ty #[.slice (some ⟨g, i * 2 + 2, none⟩) (n + 1 - (i + 1)) dc, .slice (some ⟨g, i * 2, none⟩) (n + 1 - i) sc]).run Tryz.prog w.drew = .ok (goInt (n - i : Nat)) (w.drew.setRow g (splice cur.toList (i * 2 + 2) F2).toArray) := fun ty dc sc =>
    run_copy_row2 w.drew _ _ ty 93 g (i * 2 + 2) (n + 1 - (i + 1)) dc ⟨g, i * 2, none⟩ (n + 1 - i) sc (n - i) cur _ F2 u_de hsz hg (by simp only [Nat.min_def]; split <;> omega) l2
      (fun j v hj => by
        rw [Addr.add_lit, cell_row (w := w.drew) hg, ← Array.getElem?_toList, hcs, List.getElem?_append_right (by omega), List.getElem?_append_left (by have := (List.getElem?_eq_some_iff.1 hj).1; omega)]
        rwa [show i * 2 + j - F1.length = j by omega]) (by omega) hone
  obtain ⟨cur1, hcur1⟩ : ∃ cur1 : Array Value, cur1 = (splice cur.toList (i * 2 + 2) F2).toArray := ⟨_, rfl⟩
  have hcl1 : cur1.size = c * 2 := by
    rw [hcur1]
    have := splice_size cur.toList F2 (i * 2 + 2) (by have := Array.length_toList (xs := cur); omega)
    simpa [hcl] using this
  obtain ⟨W1, hW1⟩ : ∃ W1, W1 = w.drew.setRow g cur1 := ⟨_, rfl⟩
  have hg1 : W1.heap[g]? = some (.cells cur1 93 (0, 0)) := by rw [hW1]; exact setRow_heap w.drew g _ _ _ _ hg
  have hv1 : W1.heap[vb]? = some (.cells vcs vt (0, 0)) := by rw [hW1, setRow_other w.drew g vb _ hne]; exact hv
  rw [← hcur1] at hcp1
  rw [← hW1] at hcp1
  have hcp2 : ∀ ty dc, (Builtin.copy_ #[60, 60] ty #[.slice (some ⟨g, i * 2, none⟩) (n + 1 - i) dc, .slice (some ⟨vb, 0, none⟩) 1 1]).run Tryz.prog W1 = .ok (goInt (1 : Nat)) (W1.setRow g (splice cur1.toList (i * 2) [x, y]).toArray) := fun ty dc =>
    run_copy_row2 W1 _ _ ty 93 g (i * 2) (n + 1 - i) dc ⟨vb, 0, none⟩ 1 1 1 cur1 _ [x, y] u_de hsz hg1 (by simp only [Nat.min_def]; split <;> omega) rfl
      (fun j v hj => by
        rw [Addr.add_lit, cell_row hv1]
        match j, hj with
        | 0, hj => cases hj; exact hx
        | 1, hj => cases hj; exact hy) (by simp; omega) (by intro v hv; simp at hv; rcases hv with rfl | rfl <;> assumption)
  have hz1' : ¬ ((1 : Int) = 0) := by decide
  have hz2' : ¬ ((i : Int) = (n : Int)) := by omega
  have hw1 : IntKind.i64.wrap ((i : Int) + 1) = (i : Int) + 1 := by rw [IntKind.wrap_i64]; omega
  have hw2 : IntKind.i64.wrap ((n : Int) + 1) = (n : Int) + 1 := by rw [IntKind.wrap_i64]; omega
  have hb0 : ¬ ((c : Int) < (n : Int) + 1) := by omega
  have hb1 : (0 : Int) ≤ (i : Int) + 1 := by omega
  have hin : i ≤ n := by omega
  have htn : ((i : Int) + 1).toNat = i + 1 := by omega
  have htn' : ((n : Int) + 1).toNat = n + 1 := by omega
  have hb2 : ¬ (c = i + 1) := by omega
  have hb3 : (i : Int) ≤ (n : Int) + 1 := by omega
  have hb4 : ¬ (c = i) := by omega
  have mixed : Tryz.prog.follows .mixedOrders = true := by kernel_rfl
  have HC := Lib.hid hcur1; have HW := Lib.hid hW1
  clear hcur1 hW1 hcs hg hg1 hv hv1 l1 l2 l3
  go_enter Tryz.func159, Tryz.ntmps159
  go_wp2_with (simp only [hov])
  go_region_law_o (refine step_copy_runI rfl _ _ 60 60 rfl (.slice (some ⟨g, i * 2 + 2, none⟩) (n + 1 - (i + 1)) (c - (i + 1))) (.slice (some ⟨g, i * 2, none⟩) (n + 1 - i) (c - i)) (by simp [Act.eval, Act.put]) (by simp [Act.eval, Act.put]) (hcp1 _ _ _) ?_)
  go_wp2_with (at_builtin; refine wpList_copy_runI _ rfl _ _ 60 60 rfl _ _ rfl rfl (hcp2 _ _) ?_)
  go_ret
  exact ⟨rfl, by rw [HW.out, HC.out]⟩

set_option maxHeartbeats 6400000 in
set_option maxRecDepth 100000 in
/-- In the middle, there is no room: a new row. -/
theorem insert_mid_grow (g n c i vb : Nat) (cur : Array Value) (F1 F2 R : List Value) (x y : Value) (vcs : Array Value) (vt : TypeId) (w : World) (hg : w.heap[g]? = some (.cells cur 93 (0, 0))) (hi : i < n) (hgrow : c < n + 1) (hnc : n ≤ c) (hsm : n ≤ 1000)
    (hcs : cur.toList = F1 ++ (F2 ++ R)) (l1 : F1.length = i * 2) (l2 : F2.length = (n - i) * 2) (hone : ∀ v ∈ F2, v.oneCell' = true)
    (hv : w.heap[vb]? = some (.cells vcs vt (0, 0))) (hx : vcs[0]? = some x) (hy : vcs[1]? = some y) (h1 : x.oneCell' = true) (h2 : y.oneCell' = true) :
    Calls Tryz.prog 159 #[.slice (some ⟨g, 0, none⟩) n c, .int .i64 i, .slice (some ⟨vb, 0, none⟩) 1 1] w fun en w' =>
      ∃ (G : Nat) (z : List Value), n + 1 ≤ G ∧ G ≤ maxLen ∧ z.length = G * 2 - i * 2 ∧ en = .returned (.slice (some ⟨w.heap.size, 0, none⟩) (n + 1) G) ∧
        w' = ((w.drew.alloc (.cells (F1 ++ z).toArray 93)).setRow w.heap.size (splice (F1 ++ z) (i * 2) [x, y]).toArray).drew.setRow w.heap.size (splice (splice (F1 ++ z) (i * 2) [x, y]) (i * 2 + 2) F2).toArray := by
  obtain ⟨i0, hi0, hz0, hz1, hz2⟩ := info_de
  have hsz : (Tryz.prog.info? 93).map (·.size) = some 2 := by rw [hi0]; simp [hz1]
  have hgw : g < w.heap.size := own_lt hg
  have hvw : vb < w.heap.size := own_lt hv
  have hkk : (n : Int) + 1 - (i : Int) = ((n + 1 - i : Nat) : Int) := by omega
  have hik : i + (n + 1 - i) = n + 1 := by omega
  have hold : (Builtin.firstCells i0.size i (.slice (some ⟨g, 0, none⟩) i c)).run Tryz.prog w.drew = .ok F1.toArray w.drew := by
    rw [hz1]
    exact run_firstCells_some w.drew 2 i ⟨g, 0, none⟩ i c F1 l1 (fun j v hj => by
      rw [Addr.add_lit, Nat.zero_add, cell_row (w := w.drew) hg, ← Array.getElem?_toList, hcs, List.getElem?_append_left (List.getElem?_eq_some_iff.1 hj).1]
      exact hj)
  have hG1 : n + 1 ≤ grownCap w (n + 1) c 93 := grownCap_ge w _ _ _
  have hG2 := grownCap_le_maxLen w (n + 1) c 93 (by unfold maxLen; omega)
  have hrz : ∃ (G : Nat) (z : List Value), n + 1 ≤ G ∧ G ≤ maxLen ∧ z.length = G * 2 - i * 2 ∧ ∀ ty, (Builtin.append_ #[60, 3] ty #[.slice (some ⟨g, 0, none⟩) i c, .int .i64 ((n : Int) + 1 - (i : Int))]).run Tryz.prog w =
      .ok (.slice (some ⟨w.heap.size, 0, none⟩) (n + 1) G) (w.drew.alloc (.cells (F1 ++ z).toArray 93)) := by
    refine ⟨_, (Builtin.zeroCells #[.string ⟨#[]⟩, .int .i64 0] (n + 1 - i)).toList ++ (Builtin.zeroCells #[.string ⟨#[]⟩, .int .i64 0] (grownCap w (n + 1) c 93 - (n + 1))).toList, hG1, hG2, ?_, fun ty => ?_⟩
    · simp [Builtin.zeroCells]; omega
    · have h := Lib.run_append_grow_zeros w 60 3 ty 93 i0 _ .i64 .i64 u_de Tryz.underlying3 hi0 hz0 (some ⟨g, 0, none⟩) i c F1 hold (n + 1 - i) (by omega) (by omega) (by omega) (by omega) (by rw [hz2]; omega) (by rw [hz2, hik]; have := growslice_fits (bytes := 24) hgrow (by omega); omega)
      rw [hik] at h
      rw [hkk, h]
      refine congrArg (fun q => Result.ok (Value.slice (some ⟨w.heap.size, 0, none⟩) (n + 1) (grownCap w (n + 1) c 93)) (w.drew.alloc (Obj.cells q 93))) ?_
      apply Array.ext'
      simp [Value.cells]
  obtain ⟨G, z, hg1, hg2, lz, hrz⟩ := hrz
  clear hkk hik hold hG1 hG2
  obtain ⟨W1, hW1⟩ : ∃ W1, W1 = w.drew.alloc (.cells (F1 ++ z).toArray 93) := ⟨_, rfl⟩
  obtain ⟨N, hN⟩ : ∃ N, N = w.heap.size := ⟨_, rfl⟩
  have hNb : W1.heap[N]? = some (.cells (F1 ++ z).toArray 93 (0, 0)) := by rw [hW1, hN]; exact heap_alloc_last' w.drew _
  have hgb : W1.heap[g]? = some (.cells cur 93 (0, 0)) := by rw [hW1, heap_alloc_old' w.drew _ g hgw]; exact hg
  have hvb : W1.heap[vb]? = some (.cells vcs vt (0, 0)) := by rw [hW1, heap_alloc_old' w.drew _ vb hvw]; exact hv
  have hgN : g ≠ N := by omega
  obtain ⟨r1, hr1⟩ : ∃ r1 : Array Value, r1 = (splice (F1 ++ z) (i * 2) [x, y]).toArray := ⟨_, rfl⟩
  have hcpA : ∀ ty dc, (Builtin.copy_ #[60, 60] ty #[.slice (some ⟨N, i * 2, none⟩) (n + 1 - i) dc, .slice (some ⟨vb, 0, none⟩) 1 1]).run Tryz.prog W1 = .ok (goInt (1 : Nat)) (W1.setRow N r1) := fun ty dc => by
    have := run_copy_row2 (P := Tryz.prog) W1 60 60 ty 93 N (i * 2) (n + 1 - i) dc ⟨vb, 0, none⟩ 1 1 1 _ _ [x, y] u_de hsz hNb (by simp only [Nat.min_def]; split <;> omega) rfl
      (fun j v hj => by
        rw [Addr.add_lit, cell_row hvb]
        match j, hj with
        | 0, hj => cases hj; exact hx
        | 1, hj => cases hj; exact hy) (by simp; omega) (by intro v hv; simp at hv; rcases hv with rfl | rfl <;> assumption)
    rw [hr1]; exact this
  obtain ⟨W2, hW2⟩ : ∃ W2, W2 = W1.setRow N r1 := ⟨_, rfl⟩
  have hNb2 : W2.heap[N]? = some (.cells r1 93 (0, 0)) := by rw [hW2]; exact setRow_heap W1 N _ _ _ _ hNb
  have hgb2 : W2.heap[g]? = some (.cells cur 93 (0, 0)) := by rw [hW2, setRow_other W1 N g _ hgN]; exact hgb
  have hr1s : r1.size = G * 2 := by
    rw [hr1]
    have := splice_size (F1 ++ z) [x, y] (i * 2) (by simp only [List.length_append, List.length_cons, List.length_nil]; omega)
    simp only [List.size_toArray, this, List.length_append]; omega
  rw [← hW2] at hcpA
  have hcpB : ∀ ty dc sc, (Builtin.copy_ #[60, 60] ty #[.slice (some ⟨N, i * 2 + 2, none⟩) (n + 1 - (i + 1)) dc, .slice (some ⟨g, i * 2, none⟩) (n - i) sc]).run Tryz.prog W2.drew = .ok (goInt (n - i : Nat)) (W2.drew.setRow N (splice r1.toList (i * 2 + 2) F2).toArray) := fun ty dc sc =>
    run_copy_row2 W2.drew _ _ ty 93 N (i * 2 + 2) (n + 1 - (i + 1)) dc ⟨g, i * 2, none⟩ (n - i) sc (n - i) r1 _ F2 u_de hsz hNb2 (by simp only [Nat.min_def]; split <;> omega) l2
      (fun j v hj => by
        rw [Addr.add_lit, cell_row (w := W2.drew) hgb2, ← Array.getElem?_toList, hcs, List.getElem?_append_right (by omega), List.getElem?_append_left (by have := (List.getElem?_eq_some_iff.1 hj).1; omega)]
        rwa [show i * 2 + j - F1.length = j by omega]) (by omega) hone
  have hz1' : ¬ ((1 : Int) = 0) := by decide
  have hz2' : ¬ ((i : Int) = (n : Int)) := by omega
  have hw1 : IntKind.i64.wrap ((i : Int) + 1) = (i : Int) + 1 := by rw [IntKind.wrap_i64]; omega
  have hw2 : IntKind.i64.wrap ((n : Int) + 1) = (n : Int) + 1 := by rw [IntKind.wrap_i64]; omega
  have hw3 : IntKind.i64.wrap ((n : Int) + 1 - (i : Int)) = (n : Int) + 1 - (i : Int) := by rw [IntKind.wrap_i64]; omega
  have hb0 : (c : Int) < (n : Int) + 1 := by omega
  have hb1 : (0 : Int) ≤ (i : Int) + 1 := by omega
  have hin : i ≤ n := by omega
  have htn : ((i : Int) + 1).toNat = i + 1 := by omega
  have hb2 : ¬ (G = i + 1) := by omega
  have hb3 : (i : Int) ≤ (n : Int) + 1 := by omega
  have hb4 : ¬ (c = i) := by omega
  have hb5 : ¬ (G = i) := by omega
  have mixed : Tryz.prog.follows .mixedOrders = true := by kernel_rfl
  rw [← hW1, ← hN] at hrz
  rw [← hN]
  have HR := Lib.hid hr1; have HW := Lib.hid hW1; have HX := Lib.hid hW2; have HN := Lib.hid hN; have HG2 := Lib.hid hg2; have HL := Lib.hid lz
  clear hr1 hW1 hW2 hN hcs hg hgb hvb hNb hNb2 hgb2 hv l1 l2 hg2 lz hr1s
  go_enter Tryz.func159, Tryz.ntmps159
  go_wp2_with (first
    | (at_builtin; refine Lib.wpList_append_run _ rfl _ _ _ _ rfl _ _ rfl rfl _ _ (hrz _) ?_)
    | (at_builtin; refine wpList_copy_runI _ rfl _ _ 60 60 rfl _ _ rfl rfl (hcpA _ _) ?_))
  go_region_law_o (refine step_copy_runI rfl _ _ 60 60 rfl (.slice (some ⟨N, i * 2 + 2, none⟩) (n + 1 - (i + 1)) (G - (i + 1))) (.slice (some ⟨g, i * 2, none⟩) (n - i) (c - i)) (by simp [Act.eval, Act.put]) (by simp [Act.eval, Act.put]) (hcpB _ _ _) ?_)
  go_wp2
  go_ret
  exact ⟨G, z, hg1, HG2.out, HL.out, rfl, by rw [HX.out, HW.out, HR.out]⟩

/-- What Insert leaves. -/
def InsPost (base : Nat) (v : Value) (es : List DE) (i : Nat) (e : DE) (w : World) (en : Ending) (w' : World) : Prop :=
  ∃ v', en = .returned v' ∧ w'.ownsRow base 93 2 v' (es.length + 1) (flatD (es.take i ++ e :: es.drop i)) ∧ w.grownBy w' v.ownBlock ∧ (∀ q, v'.ownBlock = some q → v.ownBlock = some q ∨ w.heap.size ≤ q)

theorem setRow_size (w : World) (g : Nat) (cs : Array Value) : (w.setRow g cs).heap.size = w.heap.size := by
  unfold World.setRow; simp
theorem grown_setRow {w w1 : World} {row : Option Nat} (h : w.grownBy w1 row) (g : Nat) (cs : Array Value) (hg : row = some g ∨ w.heap.size ≤ g) : w.grownBy (w1.setRow g cs) row :=
  ⟨h.os, h.tape, h.output, by rw [setRow_size]; exact h.size, fun k hk hne => by
    rw [setRow_other w1 g k cs (by rintro rfl; rcases hg with hg | hg; exact hne hg.symm; omega)]
    exact h.block k hk hne⟩
theorem grown_drew (w : World) (row : Option Nat) : w.grownBy w.drew row := ⟨rfl, rfl, rfl, Nat.le_refl _, fun _ _ _ => rfl⟩
theorem grown_alloc {w w1 : World} {row : Option Nat} (h : w.grownBy w1 row) (o : Obj) : w.grownBy (w1.alloc o) row :=
  ⟨h.os, h.tape, h.output, by have := h.size; show _ ≤ (w1.heap.push o).size; simp; omega, fun k hk hne => by
    rw [heap_alloc_old' w1 o k (Nat.lt_of_lt_of_le hk h.size)]; exact h.block k hk hne⟩
theorem grown_drew' {w w1 : World} {row : Option Nat} (h : w.grownBy w1 row) : w.grownBy w1.drew row := ⟨h.os, h.tape, h.output, h.size, h.block⟩

theorem take_app {α : Type} (A B : List α) (n : Nat) (h : A.length = n) : (A ++ B).take n = A := by subst h; exact List.take_left' rfl

theorem own_new {w : World} {base g n c : Nat} {cur : Array Value} {xs rest : List Value} (hb : base ≤ g) (hg : w.heap[g]? = some (.cells cur 93 (0, 0))) (hn : n ≤ c) (hc : c ≤ maxLen) (hs : cur.size = c * 2) (hx : xs.length = n * 2) (he : cur.toList = xs ++ rest) :
    w.ownsRow base 93 2 (.slice (some ⟨g, 0, none⟩) n c) n xs :=
  ⟨hx, Or.inr ⟨g, c, cur, rfl, hb, hg, hn, hc, hs, by rw [he]; exact take_app _ _ _ hx⟩⟩

theorem insert_own (base : Nat) (v : Value) (es : List DE) (i : Nat) (e : DE) (vb : Nat) (vt : TypeId) (w : World) (h : w.ownsRow base 93 2 v es.length (flatD es)) (hl : es.length ≤ 1000) (hi : i ≤ es.length) (hb : base ≤ w.heap.size)
    (hv : w.heap[vb]? = some (.cells #[.string e.n, .int .i64 e.i] vt (0, 0))) (hne : v.ownBlock ≠ some vb) :
    Calls Tryz.prog 159 #[v, .int .i64 i, .slice (some ⟨vb, 0, none⟩) 1 1] w (InsPost base v es i e w) := by
  have hx : w.cell? ⟨vb, 0, none⟩ = some (.string e.n) := by rw [cell_row hv]; rfl
  have hy : w.cell? ⟨vb, 1, none⟩ = some (.int .i64 e.i) := by rw [cell_row hv]; rfl
  have hE : flatD (es.take i ++ e :: es.drop i) = flatD (es.take i) ++ ([.string e.n, .int .i64 e.i] ++ flatD (es.drop i)) := by rw [flatD_append, flatD_cons]; rfl
  have hF : flatD es = flatD (es.take i) ++ flatD (es.drop i) := by rw [← flatD_append, List.take_append_drop]
  have l1 : (flatD (es.take i)).length = i * 2 := by rw [flatD_len, List.length_take, Nat.min_eq_left hi]
  have l2 : (flatD (es.drop i)).length = (es.length - i) * 2 := by rw [flatD_len, List.length_drop]
  have lE : (flatD (es.take i ++ e :: es.drop i)).length = (es.length + 1) * 2 := by
    rw [hE]; simp only [List.length_append, List.length_cons, List.length_nil, l1, l2]; omega
  rcases h.2 with ⟨hnv, hn0⟩ | ⟨g, c, cur, hnv, hbg, hg, hnc, hcm, hcs, ht⟩
  · -- the nil row
    subst hnv
    have hes : es = [] := List.eq_nil_of_length_eq_zero hn0
    subst hes
    have hi0 : i = 0 := by simpa using hi
    subst hi0
    refine (insert_end_grow none 0 0 vb 1 [] _ _ w (by omega) (Nat.le_refl _) (by omega) rfl (fun _ => rfl) (fun a ha => by cases ha) hx hy).mono ?_
    rintro en w' ⟨rfl, rfl⟩
    have hG1 : 0 + 1 ≤ grownCap w (0 + 1) 0 93 := grownCap_ge w _ _ _
    have hG2 := grownCap_le_maxLen w (0 + 1) 0 93 (by unfold maxLen; omega)
    refine ⟨_, rfl, own_new (rest := (Builtin.zeroCells #[.string ⟨#[]⟩, .int .i64 0] (grownCap w (0 + 1) 0 93 - (0 + 1))).toList) hb (heap_alloc_last' w.drew _) hG1 hG2 ?_ lE ?_, grown_alloc (grown_drew w _) _, ?_⟩
    · generalize grownCap w (0 + 1) 0 93 = G at hG1 hG2 ⊢
      simp [Builtin.zeroCells]; omega
    · simp [hE, flatD, DE.cells]
    · intro q hq; simp [Value.ownBlock] at hq; exact Or.inr (by omega)
  · subst hnv
    have hgn : g ≠ vb := by rintro rfl; exact hne rfl
    have hcl : cur.toList = flatD es ++ cur.toList.drop (es.length * 2) := by rw [← ht, List.take_append_drop]
    have hgl : g < w.heap.size := own_lt hg
    by_cases hie : i = es.length
    · subst hie
      have hd : flatD (es.drop es.length) = [] := by rw [List.drop_length]; rfl
      have htk : flatD (es.take es.length) = flatD es := by rw [List.take_length]
      by_cases hroom : es.length + 1 ≤ c
      · refine (insert_end_room g es.length c vb 1 cur _ _ w hg hroom hcm hcs hx hy rfl rfl).mono ?_
        rintro en w' ⟨rfl, rfl⟩
        have hsz := splice_size cur.toList [.string e.n, .int .i64 e.i] (es.length * 2) (by rw [Array.length_toList (xs := cur)]; simp; omega)
        refine ⟨_, rfl, own_new (rest := cur.toList.drop (es.length * 2 + 2)) hbg (setRow_heap w g _ _ _ _ hg) hroom hcm ?_ lE ?_, ?_, ?_⟩
        · simp only [List.size_toArray, hsz, Array.length_toList]; exact hcs
        · rw [hE, hd, htk]
          show splice _ _ _ = _
          unfold splice
          rw [ht]; simp
        · exact grown_setRow ⟨rfl, rfl, rfl, Nat.le_refl _, fun _ _ _ => rfl⟩ g _ (Or.inl rfl)
        · intro q hq; exact Or.inl hq
      · have hcn : c = es.length := by omega
        refine (insert_end_grow (some ⟨g, 0, none⟩) es.length c vb 1 (flatD es) _ _ w (by omega) hnc hl (flatD_len es) (fun h => by cases h) (fun a ha j u hj => by
          cases ha
          rw [Addr.add_lit, Nat.zero_add, cell_row hg, ← Array.getElem?_toList, hcl, List.getElem?_append_left (List.getElem?_eq_some_iff.1 hj).1]; exact hj) hx hy).mono ?_
        rintro en w' ⟨rfl, rfl⟩
        have hG1 : es.length + 1 ≤ grownCap w (es.length + 1) c 93 := grownCap_ge w _ _ _
        have hG2 := grownCap_le_maxLen w (es.length + 1) c 93 (by unfold maxLen; omega)
        refine ⟨_, rfl, own_new (rest := (Builtin.zeroCells #[.string ⟨#[]⟩, .int .i64 0] (grownCap w (es.length + 1) c 93 - (es.length + 1))).toList) hb (heap_alloc_last' w.drew _) hG1 hG2 ?_ lE ?_, grown_alloc (grown_drew w _) _, ?_⟩
        · simp [Builtin.zeroCells, flatD_len]; omega
        · rw [hE, hd, htk]; simp
        · intro q hq; simp [Value.ownBlock] at hq; exact Or.inr (by omega)
    · have hlt : i < es.length := by omega
      have hcl' : cur.toList = flatD (es.take i) ++ (flatD (es.drop i) ++ cur.toList.drop (es.length * 2)) := by rw [← List.append_assoc, ← hF]; exact hcl
      have lR : (cur.toList.drop (es.length * 2)).length = (c - es.length) * 2 := by rw [List.length_drop, Array.length_toList, hcs]; omega
      by_cases hroom : es.length + 1 ≤ c
      · refine (insert_mid_room g es.length c i vb cur _ _ _ (.string e.n) (.int .i64 e.i) _ vt w hg hlt hroom hcm hcl' l1 l2 lR (flatD_one _) hv rfl rfl rfl (Ne.symm hgn) rfl rfl).mono ?_
        rintro en w' ⟨rfl, rfl⟩
        obtain ⟨R', hR'⟩ := splice_mid (flatD (es.take i)) (flatD (es.drop i)) (cur.toList.drop (es.length * 2)) [.string e.n, .int .i64 e.i] (by rw [lR]; simp; omega)
        rw [← hcl', l1] at hR'
        have hR'' : splice (splice cur.toList (i * 2 + 2) (flatD (es.drop i))) (i * 2) [.string e.n, .int .i64 e.i] = flatD (es.take i) ++ ([.string e.n, .int .i64 e.i] ++ (flatD (es.drop i) ++ R')) := hR'
        have hs1 := splice_size cur.toList (flatD (es.drop i)) (i * 2 + 2) (by rw [Array.length_toList (xs := cur)]; omega)
        have hs2 := splice_size (splice cur.toList (i * 2 + 2) (flatD (es.drop i))) [.string e.n, .int .i64 e.i] (i * 2) (by rw [hs1, Array.length_toList (xs := cur)]; simp; omega)
        refine ⟨_, rfl, own_new (rest := R') hbg (setRow_heap _ g _ _ _ _ (setRow_heap w.drew g _ _ _ _ hg)) hroom hcm ?_ lE ?_, ?_, ?_⟩
        · simp only [List.size_toArray, hs2, hs1, Array.length_toList]; exact hcs
        · rw [hE]; simp only [hR'', List.append_assoc]
        · exact grown_setRow (grown_setRow (grown_drew w _) g _ (Or.inl rfl)) g _ (Or.inl rfl)
        · intro q hq; exact Or.inl hq
      · refine (insert_mid_grow g es.length c i vb cur _ _ (cur.toList.drop (es.length * 2)) (.string e.n) (.int .i64 e.i) _ vt w hg hlt (by omega) hnc hl hcl' l1 l2 (flatD_one _) hv rfl rfl rfl rfl).mono ?_
        rintro en w' ⟨G, z, hg1, hg2, lz, rfl, rfl⟩
        have hs1 := splice_size (flatD (es.take i) ++ z) [.string e.n, .int .i64 e.i] (i * 2) (by rw [List.length_append]; simp; omega)
        have hs2 := splice_size (splice (flatD (es.take i) ++ z) (i * 2) [.string e.n, .int .i64 e.i]) (flatD (es.drop i)) (i * 2 + 2) (by rw [hs1, List.length_append]; omega)
        have hL : ∃ R', splice (splice (flatD (es.take i) ++ z) (i * 2) [.string e.n, .int .i64 e.i]) (i * 2 + 2) (flatD (es.drop i)) = flatD (es.take i) ++ ([.string e.n, .int .i64 e.i] ++ (flatD (es.drop i) ++ R')) := by
          refine ⟨(splice (flatD (es.take i) ++ z) (i * 2) [.string e.n, .int .i64 e.i]).drop (i * 2 + 2 + (flatD (es.drop i)).length), ?_⟩
          have h2 : (splice (flatD (es.take i) ++ z) (i * 2) [.string e.n, .int .i64 e.i]).take (i * 2 + 2) = flatD (es.take i) ++ [.string e.n, .int .i64 e.i] := by
            unfold splice
            rw [take_app _ _ _ l1, ← List.append_assoc]
            exact take_app _ _ _ (by rw [List.length_append, l1]; rfl)
          unfold splice at h2 ⊢
          rw [h2]; simp
        obtain ⟨R', hR'⟩ := hL
        refine ⟨_, rfl, own_new (rest := R') hb (setRow_heap _ _ _ _ _ _ (setRow_heap _ _ _ _ _ _ (heap_alloc_last' w.drew _))) hg1 hg2 ?_ lE ?_, ?_, ?_⟩
        · simp only [List.size_toArray, hs2, hs1, List.length_append, l1, lz]; omega
        · rw [hE]; simp only [hR', List.append_assoc]
        · exact grown_setRow (grown_drew' (grown_setRow (grown_alloc (grown_drew w _) _) _ _ (Or.inr (Nat.le_refl _)))) _ _ (Or.inr (Nat.le_refl _))
        · intro q hq; simp [Value.ownBlock] at hq; exact Or.inr (by omega)

end Go.Proofs.YtmbbmmnpkdfecaaGreatDoor

/- The new size and the new data of a file: sizeAfter, dataAfter. Conditions: the request's slices lie in memory as they read. -/

set_option linter.all false
namespace Go.Proofs.YtmbbmmnpkdfecaaGreatDoor
open Go.RowKit

def sizeF (size : Int) (r : Rq) : Int := if r.k = 5 then r.sz else if r.d.length = 0 then size else max size (r.off + (r.d.length : Int))

set_option maxHeartbeats 1000000 in
theorem sizeAfter_any (size : Int) (r : Rq) (vd va : Value) (w : World) (h : RqS w w.heap.size vd va r) (h0 : 0 ≤ r.off) (h1 : r.off ≤ 1000000) :
    Calls Tryz.prog 163 #[.int .i64 size, rqV r vd va] w fun e w' => e = .returned (.int .i64 (sizeF size r)) ∧ Below w.heap.size w w' := by
  obtain ⟨⟨da, dc, rfl, hdc, hdl, _⟩, ⟨aa, ac, rfl, hac, hal, _, _⟩, _, _, _, _, _, _, _⟩ := h
  unfold rqV
  have HB := Lib.hid (show sizeF size r = if r.k = 5 then r.sz else if r.d.length = 0 then size else max size (r.off + (r.d.length : Int)) from rfl)
  generalize sizeF size r = q at *
  generalize r.d.length = n1 at *
  generalize r.ac.length = n2 at *
  obtain ⟨k, u, p, t, off, sz, d, acl, an, av⟩ := r
  simp only at *
  go_enter Tryz.func163, Tryz.ntmps163
  by_cases hk : k = 5
  · subst hk
    rw [if_pos rfl] at HB
    go_wp2
    go_ret
    exact ⟨ret_int HB.out.symm, (Below.refl _ _).alloc (Nat.le_refl _) _⟩
  · have hk1 : (k == 5) = false := by simpa using hk
    rw [if_neg hk] at HB
    clear hk
    by_cases hn : n1 = 0
    · subst hn
      rw [if_pos rfl] at HB
      go_wp2
      go_ret
      exact ⟨ret_int HB.out.symm, (Below.refl _ _).alloc (Nat.le_refl _) _⟩
    · rw [if_neg hn] at HB
      have hn1 : ((n1 : Int) == 0) = false := by rw [beq_eq_false_iff_ne]; omega
      have hw : IntKind.i64.wrap (off + (n1 : Int)) = off + (n1 : Int) := IntWalk.i64_in _ (by omega)
      clear hn
      go_wp2
      go_ret
      exact ⟨ret_int HB.out.symm, (Below.refl _ _).alloc (Nat.le_refl _) _⟩

def zerosB (n : Nat) : List UInt8 := List.replicate n 0
def dataF (old : List UInt8) (r : Rq) (n : Nat) : List UInt8 :=
  if r.d.length = 0 then splice (zerosB n) 0 (old.take n) else splice (splice (zerosB n) 0 (old.take n)) r.off.toNat r.d
theorem map_splice {α β : Type} (f : α → β) (L : List α) (off : Nat) (cs : List α) : (splice L off cs).map f = splice (L.map f) off (cs.map f) := by simp [splice, List.map_take, List.map_drop]
theorem flatB_splice (L : List UInt8) (off : Nat) (cs : List UInt8) : flatB (splice L off cs) = splice (flatB L) off (flatB cs) := map_splice _ L off cs
theorem make_bytes (n : Nat) (hn : n ≤ 1000) (w : World) : (Instr.makeSlice 25 (.int .i64 (n : Int)) (.int .i64 (n : Int))).run Tryz.prog w = .ok (.slice (some ⟨w.heap.size, 0, none⟩) n n) (w.alloc (.cells (flatB (zerosB n)).toArray 5)) := by
  obtain ⟨i0, hi, hz0, hz1, hz2⟩ := info_parts infoB
  have hr := run_make (P := Tryz.prog) w 25 5 i0 _ Tryz.underlying25 hi hz0 .i64 .i64 n n (by omega) (by omega) (by rw [hz2]; omega) (by omega)
  simp only [Int.toNat_natCast, hz1, Nat.mul_one] at hr
  rw [hr]
  have : madeCells (Value.int IntKind.u8 0).cells n = (flatB (zerosB n)).toArray := by
    apply Array.ext
    · simp [madeCells, flatB, zerosB]
    · intro i h1 h2
      simp [madeCells, flatB, zerosB, Value.cells, Nat.mod_one]
  rw [this]
theorem bytes_made {w : World} {base g n : Nat} {d : List UInt8} (h : w.heap[g]? = some (.cells (flatB d).toArray 5 (0, 0))) (hd : d.length = n) (hb : base ≤ g) (hn : n ≤ 1000) : w.ownsRow base 5 1 (.slice (some ⟨g, 0, none⟩) n n) n (flatB d) :=
  ⟨by rw [flatB_len, hd], .inr ⟨g, n, _, rfl, hb, h, Nat.le_refl _, Nat.le_trans hn (by decide), by simp [flatB, hd], by rw [← hd]; simp [flatB]; rw [List.take_of_length_le (by simp)]⟩⟩
theorem byts_cells {w : World} {B : Nat} {a : Option Addr} {n c : Nat} {d : List UInt8} (h : Byts w B (.slice a n c) d) (m : Nat) (hpos : 0 < (flatB (d.take m)).length) : ∃ ad, a = some ad ∧ ∀ j v, (flatB (d.take m))[j]? = some v → w.cell? (ad.add j) = some v := by
  obtain ⟨a', c', e, hc, hl, hx⟩ := h
  injection e with e1 e2 e3
  subst e1 e2 e3
  simp only [flatB_len, List.length_take, Nat.mul_one] at hpos
  obtain ⟨b, o, ha, hb, hj⟩ := hx (by omega)
  refine ⟨_, ha, fun j v hv => ?_⟩
  have hjl : j < (d.take m).length := by simpa [flatB] using (List.getElem?_eq_some_iff.1 hv).1
  have hjd : j < d.length := by simp at hjl; omega
  rw [Addr.add_lit, hj j hjd, ← hv]
  unfold flatB
  rw [List.getElem?_map, List.getElem?_take_of_lt (by simp at hjl; omega), List.getElem?_eq_getElem hjd, List.getD_eq_getElem?_getD, List.getElem?_eq_getElem hjd]
  rfl

/-- What dataAfter leaves. -/
def DataP (old : List UInt8) (r : Rq) (n : Nat) (w : World) (e : Ending) (w' : World) : Prop := ∃ v, e = .returned v ∧ w'.ownsRow w.heap.size 5 1 v n (flatB (dataF old r n)) ∧ Below w.heap.size w w'

set_option maxRecDepth 100000 in
set_option maxHeartbeats 4000000 in
theorem dataAfter_any (old : List UInt8) (r : Rq) (n : Nat) (vo vd va : Value) (w : World) (ho : Byts w w.heap.size vo old) (h : RqS w w.heap.size vd va r) (hn : n ≤ 1000) (h0 : 0 ≤ r.off) (hfit : r.d.length = 0 ∨ r.off.toNat + r.d.length ≤ n) :
    Calls Tryz.prog 164 #[vo, rqV r vd va, .int .i64 (n : Int)] w (DataP old r n w) := by
  have HD := Lib.hid h.d
  have HO := Lib.hid ho
  obtain ⟨oa, oc, rfl, hoc, hol, _⟩ := ho
  obtain ⟨⟨da, dc, rfl, hdc, hdl, _⟩, ⟨aa, ac, rfl, hac, hal, _, _⟩, _, _, _, _, _, _, _⟩ := h
  have HF := Lib.hid (show dataF old r n = if r.d.length = 0 then splice (zerosB n) 0 (old.take n) else splice (splice (zerosB n) 0 (old.take n)) r.off.toNat r.d from rfl)
  unfold DataP
  generalize dataF old r n = F at *
  unfold rqV
  generalize r.ac.length = n2 at *
  obtain ⟨k, u, p, t, off, sz, d, acl, an, av⟩ := r
  simp only at *
  obtain ⟨q, rfl⟩ := Int.eq_ofNat_of_zero_le h0
  simp only [Int.toNat_natCast] at hfit HF
  have hmk := make_bytes n hn
  obtain ⟨Z, hZ⟩ : ∃ Z, Z = flatB (zerosB n) := ⟨_, rfl⟩
  rw [← hZ] at hmk
  have HZ := Lib.hid hZ
  have hZl : Z.length = n := by rw [hZ]; simp [flatB, zerosB]
  clear hZ
  obtain ⟨C1, hC1⟩ : ∃ C1, C1 = flatB (old.take n) := ⟨_, rfl⟩
  have hC1l : C1.length = Nat.min old.length n := by rw [hC1]; simp [flatB]; exact Nat.min_comm _ _
  have hC1o : ∀ v ∈ C1, v.oneCell' = true := by rw [hC1]; exact flatB_one _
  obtain ⟨C2, hC2⟩ : ∃ C2, C2 = flatB (d.take d.length) := ⟨_, rfl⟩
  have hC2l : C2.length = d.length := by rw [hC2]; simp [flatB]
  have hC2o : ∀ v ∈ C2, v.oneCell' = true := by rw [hC2]; exact flatB_one _
  have hC1e := hC1
  have hC2e := hC2
  clear hC1 hC2
  have HP1 := Lib.hid (fun W (hb : Below w.heap.size w W) (h9 : 0 < C1.length) => (hC1e ▸ byts_cells (HO.out.keep (w' := W) fun b o hB => hb.cell (p := ⟨b, o, none⟩) hB) n (by rw [← hC1e]; exact h9) : ∃ ad, oa = some ad ∧ ∀ j v, C1[j]? = some v → W.cell? (ad.add j) = some v))
  have HP2 := Lib.hid (fun W (hb : Below w.heap.size w W) (h9 : 0 < C2.length) => (hC2e ▸ byts_cells (HD.out.keep (w' := W) fun b o hB => hb.cell (p := ⟨b, o, none⟩) hB) d.length (by rw [← hC2e]; exact h9) : ∃ ad, da = some ad ∧ ∀ j v, C2[j]? = some v → W.cell? (ad.add j) = some v))
  have HC1 := Lib.hid hC1e
  have HC2 := Lib.hid hC2e
  clear hC1e hC2e
  have hs0 : (0 : Int) ≤ (n : Int) := Int.natCast_nonneg _
  have hsz : (Tryz.prog.info? 5).map (·.size) = some 1 := by kernel_rfl
  have hfz : 0 + C1.length ≤ Z.length := by rw [hC1l, hZl, Nat.zero_add]; exact Nat.min_le_right _ _
  go_enter Tryz.func164, Tryz.ntmps164
  have hBA : ∀ o1 o2 : Obj, Below (w.heap.size + 1) (w.alloc o1) ((w.alloc o1).alloc o2) := fun o1 o2 => (Below.refl _ _).alloc (by simp) _
  have hBW : ∀ o1 o2 : Obj, Below w.heap.size w ((w.alloc o1).alloc o2) := fun o1 o2 => ((Below.refl _ _).alloc (Nat.le_refl _) _).alloc (by simp) _
  have hGG : ∀ o1 : Obj, ((w.alloc o1).alloc (.cells Z.toArray 5)).heap[w.heap.size + 1]? = some (.cells Z.toArray 5 (0, 0)) := fun o1 => by
    have := Array.getElem?_push_size (xs := (w.alloc o1).heap) (x := Obj.cells Z.toArray 5 (0, 0))
    rw [show (w.alloc o1).heap.size = w.heap.size + 1 by simp] at this
    exact this
  have hp1 := fun (o1 o2 : Obj) (h9 : 0 < C1.length) => (⟨rfl, HP1.out _ (hBW o1 o2) h9⟩ : (some (⟨w.heap.size + 1, 0, none⟩ : Addr) = some ⟨w.heap.size + 1, 0, none⟩) ∧ ∃ ad, oa = some ad ∧ ∀ j v, C1[j]? = some v → ((w.alloc o1).alloc o2).cell? (ad.add j) = some v)
  by_cases hd0 : d.length = 0
  · rw [if_pos hd0] at HF
    have hdz : ((d.length : Int) > 0) = False := by rw [hd0]; simp
    go_wp2_with (with_reducible refine wpList_copy_splice rfl (.tmp 10) (.tmp 11) 25 25 rfl 5 Tryz.underlying25 hsz (some ⟨w.heap.size + 1, 0, none⟩) oa n n old.length oc rfl rfl (w.heap.size + 1) 0 Z 5 (hGG _) C1 hC1l (hp1 _ _) hfz hC1o (w.heap.size + 1) _ (hBA _ _) (Nat.le_refl _) ?_; intro w4 hg4 hb4; have r6 : w4.cell? ⟨w.heap.size, 6, none⟩ = some (.slice da 0 dc) := (hb4.cell (p := ⟨w.heap.size, 6, none⟩) (Nat.lt_succ_self _)).trans (by simp); have HB4 := Lib.hid hb4; clear hb4)
    go_ret
    refine ⟨_, rfl, bytes_made (d := F) ?_ ?_ (Nat.le_succ _) hn, ((Below.refl _ _).alloc (Nat.le_refl _) _).trans (HB4.out.mono (Nat.le_succ _))⟩
    · rw [hg4.out, HF.out, flatB_splice, ← HZ.out, ← HC1.out]
    · rw [HF.out, length_splice _ _ _ (by simp [zerosB]; omega)]; simp [zerosB]
  · rw [if_neg hd0] at HF
    have hfit2 := hfit.resolve_left hd0
    have hdz : ((d.length : Int) > 0) = True := by simp; omega
    have hqn : ¬ n = q := by omega
    have hqz : (q : Int) ≤ (n : Int) := by omega
    have hq0 : (0 : Int) ≤ (q : Int) := Int.natCast_nonneg _
    go_wp2_with (with_reducible refine wpList_copy_splice rfl (.tmp 10) (.tmp 11) 25 25 rfl 5 Tryz.underlying25 hsz (some ⟨w.heap.size + 1, 0, none⟩) oa n n old.length oc rfl rfl (w.heap.size + 1) 0 Z 5 (hGG _) C1 hC1l (hp1 _ _) hfz hC1o (w.heap.size + 1) _ (hBA _ _) (Nat.le_refl _) ?_; intro w4 hg4 hb4; have r6 : w4.cell? ⟨w.heap.size, 6, none⟩ = some (.slice da d.length dc) := (hb4.cell (p := ⟨w.heap.size, 6, none⟩) (Nat.lt_succ_self _)).trans (by simp); have r4 : w4.cell? ⟨w.heap.size, 4, none⟩ = some (.int .i64 (q : Int)) := (hb4.cell (p := ⟨w.heap.size, 4, none⟩) (Nat.lt_succ_self _)).trans (by simp); have HB4 := Lib.hid hb4; clear hb4)
    have hp2 := fun (h9 : 0 < C2.length) => (⟨rfl, HP2.out w4.drew ((((Below.refl _ _).alloc (Nat.le_refl _) _).trans (HB4.out.mono (Nat.le_succ _))).trans ((Below.refl w4.heap.size w4).drew.mono (Nat.le_trans (Nat.le_trans (Nat.le_succ _) (by simp)) HB4.out.size))) h9⟩ : (some (⟨w.heap.size + 1, q, none⟩ : Addr) = some ⟨w.heap.size + 1, q, none⟩) ∧ ∃ ad, da = some ad ∧ ∀ j v, C2[j]? = some v → w4.drew.cell? (ad.add j) = some v)
    have hC2m : C2.length = Nat.min d.length (n - q) := by rw [hC2l]; exact (Nat.min_eq_left (by omega)).symm
    have hf2 : q + C2.length ≤ (splice Z 0 C1).length := by rw [length_splice _ _ _ hfz, hZl, hC2l]; exact hfit2
    have hB4 := HB4.out.drew
    have hg4d : w4.drew.heap[w.heap.size + 1]? = some (.cells (splice Z 0 C1).toArray 5 (0, 0)) := hg4.out
    go_region_law (refine step_copy_splice rfl (.tmp 20) (.tmp 22) 25 25 rfl 5 Tryz.underlying25 hsz (some ⟨w.heap.size + 1, q, none⟩) da (n - q) (n - q) d.length dc rfl rfl (w.heap.size + 1) q (splice Z 0 C1) 5 hg4d C2 hC2m hp2 hf2 hC2o (w.heap.size + 1) _ hB4 (Nat.le_refl _) ?_; intro w5 hg5 hb5)
    all_goals
      have HB5 := Lib.hid hb5
      clear hb5 hB4 hp2 hp1 hBA hBW r4 r6
      go_wp2
      go_ret
      refine ⟨_, rfl, bytes_made (d := F) ?_ ?_ (Nat.le_succ _) hn, ((Below.refl _ _).alloc (Nat.le_refl _) _).trans (HB5.out.mono (Nat.le_succ _))⟩
      · rw [hg5.out, HF.out, flatB_splice, flatB_splice, ← HZ.out, ← HC1.out, show flatB d = C2 from by rw [HC2.out, List.take_length]]
      · have e1 : (splice (zerosB n) 0 (old.take n)).length = n := by rw [length_splice _ _ _ (by simp [zerosB]; omega)]; simp [zerosB]
        rw [HF.out, length_splice _ _ _ (by rw [e1]; exact hfit2), e1]

end Go.Proofs.YtmbbmmnpkdfecaaGreatDoor
