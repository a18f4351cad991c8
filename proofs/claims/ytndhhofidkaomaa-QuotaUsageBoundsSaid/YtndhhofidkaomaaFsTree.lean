/- Trees in memory: what a slice of entries and a slice of inodes read as, kept over new blocks. Conditions: as each theorem states. -/
import Derived.Test.YtndhhofidkaomaaFsPlain
import Derived.Test.YtndhhofidkaomaaAttrSlice
import Derived.Test.YtndhhofidkaomaaAclSlice

set_option linter.all false
namespace Go.Proofs.Ytndhhofidkaomaa
open Go.RowKit

def DE.fits (e : DE) : Prop := e.n.size ≤ maxLen ∧ i64 e.i
theorem deD {es : List DE} {k : Nat} (h : k < es.length) : es.getD k D0 = es[k] := by
  rw [List.getD_eq_getElem?_getD, List.getElem?_eq_getElem h]; rfl
/-- The slice value v reads as the entries es, all of it below block B. -/
def DEs (w : World) (B : Nat) (v : Value) (es : List DE) : Prop :=
  ∃ a c, v = .slice a es.length c ∧ es.length ≤ c ∧ es.length ≤ 35184372088832 ∧ (∀ e ∈ es, e.fits) ∧
    (0 < es.length → ∃ b o, a = some ⟨b, o, none⟩ ∧ b < B ∧ ∀ j, j < es.length →
      w.cell? ⟨b, o + j * 2, none⟩ = some (.string (es.getD j D0).n) ∧ w.cell? ⟨b, o + j * 2 + 1, none⟩ = some (.int .i64 (es.getD j D0).i))
theorem DEs.keep {w w' : World} {B : Nat} {v : Value} {es : List DE} (h : DEs w B v es) (hk : ∀ b o, b < B → w'.cell? ⟨b, o, none⟩ = w.cell? ⟨b, o, none⟩) : DEs w' B v es := by
  obtain ⟨a, c, hv, hc, hl, hf, hx⟩ := h
  refine ⟨a, c, hv, hc, hl, hf, fun h0 => ?_⟩
  obtain ⟨b, o, ha, hB, hj⟩ := hx h0
  refine ⟨b, o, ha, hB, fun j h => ?_⟩
  rw [hk _ _ hB, hk _ _ hB]
  exact hj j h
theorem DEs.more {w : World} {B B' : Nat} {v : Value} {es : List DE} (h : DEs w B v es) (hB : B ≤ B') : DEs w B' v es := by
  obtain ⟨a, c, hv, hc, hl, hf, hx⟩ := h
  refine ⟨a, c, hv, hc, hl, hf, fun h0 => ?_⟩
  obtain ⟨b, o, ha, hb, hj⟩ := hx h0
  exact ⟨b, o, ha, by omega, hj⟩
theorem DEs.up {w w' : World} {v : Value} {es : List DE} (h : DEs w w.heap.size v es) (hb : Below w.heap.size w w') : DEs w' w'.heap.size v es :=
  (h.keep fun b o hB => hb.cell (p := ⟨b, o, none⟩) hB).more hb.size
theorem DEs.fits {w : World} {B : Nat} {v : Value} {es : List DE} (h : DEs w B v es) : ∀ e ∈ es, e.fits := by
  obtain ⟨_, _, _, _, _, hf, _⟩ := h; exact hf
theorem DEs.none_ (w : World) (B : Nat) : DEs w B (.slice none 0 0) [] :=
  ⟨none, 0, rfl, by simp, by simp, by simp, fun h => absurd h (by simp)⟩

/-- The four slices of an inode, and that its numbers are an int's. -/
structure NodS (w : World) (B : Nat) (ve vd va vx : Value) (x : Nod) : Prop where
  es : DEs w B ve x.es
  dl : ∃ a c, vd = .slice a x.dl c ∧ x.dl ≤ c
  dll : x.dl ≤ 140737488355328
  ac : Acls w B va x.ac
  xs : Ats w B vx x.xs
  k : i64 x.k
  o : i64 x.o
  q : i64 x.q
  v : i64 x.v
theorem NodS.keep {w w' : World} {B : Nat} {ve vd va vx : Value} {x : Nod} (h : NodS w B ve vd va vx x) (hk : ∀ b o, b < B → w'.cell? ⟨b, o, none⟩ = w.cell? ⟨b, o, none⟩) : NodS w' B ve vd va vx x :=
  ⟨h.es.keep hk, h.dl, h.dll, h.ac.keep hk, h.xs.keep hk, h.k, h.o, h.q, h.v⟩
theorem NodS.more {w : World} {B B' : Nat} {ve vd va vx : Value} {x : Nod} (h : NodS w B ve vd va vx x) (hB : B ≤ B') : NodS w B' ve vd va vx x :=
  ⟨h.es.more hB, h.dl, h.dll, h.ac.more hB, h.xs.more hB, h.k, h.o, h.q, h.v⟩
theorem NodS.up {w w' : World} {ve vd va vx : Value} {x : Nod} (h : NodS w w.heap.size ve vd va vx x) (hb : Below w.heap.size w w') : NodS w' w'.heap.size ve vd va vx x :=
  (h.keep fun b o hB => hb.cell (p := ⟨b, o, none⟩) hB).more hb.size
/-- An inode as a value. -/
def nodV (x : Nod) (ve vd va vx : Value) : Value := .agg #[.int .i64 x.k, .int .i64 x.o, ve, vd, va, vx, .int .i64 x.q, .int .i64 x.v]
/-- The eight cells of an inode. -/
structure NodC (w : World) (b o : Nat) (ve vd va vx : Value) (x : Nod) : Prop where
  c0 : w.cell? ⟨b, o, none⟩ = some (.int .i64 x.k)
  c1 : w.cell? ⟨b, o + 1, none⟩ = some (.int .i64 x.o)
  c2 : w.cell? ⟨b, o + 2, none⟩ = some ve
  c3 : w.cell? ⟨b, o + 3, none⟩ = some vd
  c4 : w.cell? ⟨b, o + 4, none⟩ = some va
  c5 : w.cell? ⟨b, o + 5, none⟩ = some vx
  c6 : w.cell? ⟨b, o + 6, none⟩ = some (.int .i64 x.q)
  c7 : w.cell? ⟨b, o + 7, none⟩ = some (.int .i64 x.v)
theorem NodC.keep {w w' : World} {b o : Nat} {ve vd va vx : Value} {x : Nod} (h : NodC w b o ve vd va vx x) (hk : ∀ o, w'.cell? ⟨b, o, none⟩ = w.cell? ⟨b, o, none⟩) : NodC w' b o ve vd va vx x :=
  ⟨(hk _).trans h.c0, (hk _).trans h.c1, (hk _).trans h.c2, (hk _).trans h.c3, (hk _).trans h.c4, (hk _).trans h.c5, (hk _).trans h.c6, (hk _).trans h.c7⟩
/-- The slice at a (length, capacity) reads as the inodes t, all of it below block B. -/
structure Nods (w : World) (B : Nat) (a : Option Addr) (c : Nat) (t : Tr) : Prop where
  cap : t.length ≤ c
  len : t.length ≤ 35184372088832
  at_ : 0 < t.length → ∃ b o, a = some ⟨b, o, none⟩ ∧ b < B ∧ ∀ j, j < t.length → ∃ ve vd va vx, NodC w b (o + j * 8) ve vd va vx (nod t j) ∧ NodS w B ve vd va vx (nod t j)
def treeV (a : Option Addr) (n c : Nat) : Value := .agg #[.slice a n c]
theorem Nods.keep {w w' : World} {B c : Nat} {a : Option Addr} {t : Tr} (h : Nods w B a c t) (hk : ∀ b o, b < B → w'.cell? ⟨b, o, none⟩ = w.cell? ⟨b, o, none⟩) : Nods w' B a c t := by
  refine ⟨h.cap, h.len, fun h0 => ?_⟩
  obtain ⟨b, o, ha, hb, hj⟩ := h.at_ h0
  refine ⟨b, o, ha, hb, fun j hjl => ?_⟩
  obtain ⟨ve, vd, va, vx, h1, h2⟩ := hj j hjl
  exact ⟨ve, vd, va, vx, h1.keep fun o => hk b o hb, h2.keep hk⟩
theorem Nods.more {w : World} {B B' c : Nat} {a : Option Addr} {t : Tr} (h : Nods w B a c t) (hB : B ≤ B') : Nods w B' a c t := by
  refine ⟨h.cap, h.len, fun h0 => ?_⟩
  obtain ⟨b, o, ha, hb, hj⟩ := h.at_ h0
  refine ⟨b, o, ha, by omega, fun j hjl => ?_⟩
  obtain ⟨ve, vd, va, vx, h1, h2⟩ := hj j hjl
  exact ⟨ve, vd, va, vx, h1, h2.more hB⟩
theorem Nods.below {w w' : World} {B c : Nat} {a : Option Addr} {t : Tr} (h : Nods w B a c t) (hb : Below B w w') : Nods w' B a c t :=
  h.keep fun b o hB => hb.cell (p := ⟨b, o, none⟩) hB
theorem Nods.up {w w' : World} {c : Nat} {a : Option Addr} {t : Tr} (h : Nods w w.heap.size a c t) (hb : Below w.heap.size w w') : Nods w' w'.heap.size a c t :=
  (h.below hb).more hb.size
/-- One inode of a tree. -/
theorem Nods.one {w : World} {B c : Nat} {a : Option Addr} {t : Tr} (h : Nods w B a c t) {j : Nat} (hj : j < t.length) : ∃ b o ve vd va vx, a = some ⟨b, o, none⟩ ∧ b < B ∧ NodC w b (o + j * 8) ve vd va vx (nod t j) ∧ NodS w B ve vd va vx (nod t j) := by
  obtain ⟨b, o, ha, hb, hx⟩ := h.at_ (by omega)
  obtain ⟨ve, vd, va, vx, h1, h2⟩ := hx j hj
  exact ⟨b, o, ve, vd, va, vx, ha, hb, h1, h2⟩

end Go.Proofs.Ytndhhofidkaomaa
