/- Package memfs and what it calls, at this seat's translation.
   Condition: as each theorem states; this text: FsPlain, FsTree, FsFacts, FsFrame, FsSpec, FsFind, FsLeaves, FsArg, MfKit. -/
import Derived.Test.YtmbbmmnpkdfecaaGreatDoorMb4
import Derived.Test.YtmbbmmnpkdfecaaGreatDoorMb1
import Derived.WalkSmall
import Derived.Maps.AppendAt
import Derived.Deep.RegionHeld3
import Derived.Laws.OwnMore
import Derived.Deep.AppendLies
import Derived.Deep.LoopGhost
import Derived.Deep.Draws
import Derived.BigQuiet
import Derived.Test.YtmbbmmnpkdfecaaGreatDoorMb2

set_option linter.all false

/- Plain facts on file system trees: the walk in depth-first order, reached paths, references, the fault of a tree. No program. -/

set_option linter.all false
namespace Go.Proofs.YtmbbmmnpkdfecaaGreatDoor
open Go.RowKit

/-- An entry of a directory. -/
structure DE where
  n : ByteArray
  i : Int
abbrev D0 : DE := ⟨ByteArray.empty, 0⟩
/-- An inode; of its data only the length is read. -/
structure Nod where
  k : Int
  o : Int
  es : List DE
  dl : Nat
  ac : List Ent
  xs : List Attr
  q : Int
  v : Int
abbrev N0 : Nod := ⟨0, 0, [], 0, [], [], 0, 0⟩
abbrev Tr := List Nod
def nod (t : Tr) (n : Nat) : Nod := t.getD n N0
theorem nod_at {t : Tr} {n : Nat} (h : n < t.length) : nod t n = t[n] := by
  unfold nod; rw [List.getD_eq_getElem?_getD, List.getElem?_eq_getElem h]; rfl
theorem nod_past {t : Tr} {n : Nat} (h : t.length ≤ n) : nod t n = N0 := by
  unfold nod; rw [List.getD_eq_getElem?_getD, List.getElem?_eq_none h]; rfl
def kids (t : Tr) (n : Nat) : List DE := (nod t n).es
def used (t : Tr) (i : Int) : Bool := decide (0 ≤ i ∧ i < t.length ∧ (nod t i.toNat).k ≠ 0)

/-! ## Codes of an inode -/
def codeD (t : Tr) (p : ByteArray) (e : DE) : Int :=
  if vname e.n = false then 12 else if ltS p e.n = false then 5 else if e.i = 0 ∨ used t e.i = false then 3 else 0
def codeDs (t : Tr) : ByteArray → List DE → Int
  | _, [] => 0
  | p, e :: r => if codeD t p e = 0 then codeDs t e.n r else codeD t p e
def codeEs (t : Tr) (es : List DE) : Int := if 16 < es.length then 2 else codeDs t ByteArray.empty es
def codeC (x : Nod) : Int :=
  if ¬ (0 ≤ x.o ∧ x.o ≤ 7) ∨ ¬ (0 ≤ x.v ∧ x.v ≤ 1000000) ∨ ¬ (0 ≤ x.q ∧ x.q ≤ 100000) then 3
  else if (x.k = 1 ∧ 0 < x.dl) ∨ (x.k ≠ 1 ∧ (0 < x.es.length ∨ x.q ≠ 0)) then 5
  else if 200 < x.dl then 10 else 0
def codeF (x : Nod) : Int :=
  if x.es.length + x.dl + x.ac.length + x.xs.length = 0 ∧ x.o = 0 ∧ x.q = 0 ∧ x.v = 0 then 0 else 5
def or4 (a b c d : Int) : Int := if a ≠ 0 then a else if b ≠ 0 then b else if c ≠ 0 then c else d
def codeN (t : Tr) (x : Nod) : Int :=
  if x.k = 0 then codeF x
  else if x.k = 1 ∨ x.k = 2 then or4 (codeC x) (valF x.ac).1 (valA x.xs).1 (codeEs t x.es)
  else 4
theorem or4_zero {a b c d : Int} (h : or4 a b c d = 0) : a = 0 ∧ b = 0 ∧ c = 0 ∧ d = 0 := by
  unfold or4 at h
  split at h
  · rename_i h1; exact absurd h h1
  · split at h
    · rename_i h1; exact absurd h h1
    · split at h
      · rename_i h1; exact absurd h h1
      · rename_i h1 h2 h3
        simp at h1 h2 h3
        exact ⟨h1, h2, h3, h⟩

/-- How many entries refer to an inode. -/
def refs (t : Tr) (n : Nat) : Nat := (t.flatMap (·.es)).countP (fun e => decide (e.i = (n : Int)))
def codeLk (t : Tr) (n : Nat) : Int :=
  if ((nod t n).k = 1 ∧ n ≠ 0 ∧ refs t n ≠ 1) ∨ ((nod t n).k = 2 ∧ refs t n = 0) then 11 else 0

/-! ## Walks -/
abbrev Vis := List ByteArray × Nat
/-- The walk in depth-first order, so deep at the most. -/
def dfs (t : Tr) : Nat → List ByteArray → Nat → List Vis
  | 0, _, _ => []
  | d + 1, xs, n => (xs, n) :: (kids t n).flatMap fun e => dfs t d (xs ++ [e.n]) e.i.toNat
/-- The path zs leads from inode s to inode m. -/
inductive Rch (t : Tr) (s : Nat) : List ByteArray → Nat → Prop
  | nil : Rch t s [] s
  | snoc {xs : List ByteArray} {p : Nat} {e : DE} : Rch t s xs p → e ∈ kids t p → Rch t s (xs ++ [e.n]) e.i.toNat
/-- All walks from s end. -/
def Fin (t : Tr) (s : Nat) : Prop := ∀ xs m, Rch t s xs m → xs.length ≤ t.length
/-- What is left of the walk at a place. -/
def sub (t : Tr) (xs : List ByteArray) (n : Nat) : List Vis := dfs t (t.length + 1 - xs.length) xs n
def visits (t : Tr) (s : Nat) : List Vis := sub t [] s
theorem sub_eq {t : Tr} {s : Nat} (h : Fin t s) {xs : List ByteArray} {n : Nat} (hr : Rch t s xs n) :
    sub t xs n = (xs, n) :: (kids t n).flatMap fun e => sub t (xs ++ [e.n]) e.i.toNat := by
  have hl := h _ _ hr
  have e1 : t.length + 1 - xs.length = t.length - xs.length + 1 := by omega
  have e2 : ∀ a : ByteArray, t.length + 1 - (xs ++ [a]).length = t.length - xs.length := by intro a; simp
  unfold sub
  simp only [e2]
  rw [e1]
  rfl
/-- What holds behind the entries that are still to be walked, all of it. -/
theorem sub_ind {t : Tr} {s : Nat} (h : Fin t s) (P : List ByteArray → Nat → Prop)
    (step : ∀ xs n, Rch t s xs n → (∀ e ∈ kids t n, P (xs ++ [e.n]) e.i.toNat) → P xs n) : ∀ xs n, Rch t s xs n → P xs n := by
  have key : ∀ d xs n, Rch t s xs n → t.length + 1 - xs.length = d → P xs n := by
    intro d
    induction d with
    | zero => intro xs n hr hd; have := h _ _ hr; omega
    | succ d ih =>
      intro xs n hr hd
      refine step xs n hr fun e he => ih _ _ (.snoc hr he) ?_
      simp; omega
  exact fun xs n hr => key _ xs n hr rfl
theorem Rch.trans {t : Tr} {s m n : Nat} {xs ys : List ByteArray} (h : Rch t s xs m) (k : Rch t m ys n) : Rch t s (xs ++ ys) n := by
  induction k with
  | nil => simpa using h
  | snoc _ he ih => rw [← List.append_assoc]; exact .snoc ih he
theorem mem_sub {t : Tr} {s : Nat} (h : Fin t s) : ∀ xs n, Rch t s xs n → ∀ ys m, (ys, m) ∈ sub t xs n ↔ ∃ zs, ys = xs ++ zs ∧ Rch t n zs m := by
  refine sub_ind h _ fun xs n hr ih => ?_
  intro ys m
  rw [sub_eq h hr, List.mem_cons, List.mem_flatMap]
  constructor
  · rintro (e | ⟨e, he, hm⟩)
    · injection e with e1 e2
      subst e1 e2
      exact ⟨[], by simp, .nil⟩
    · obtain ⟨zs, rfl, hz⟩ := (ih e he ys m).1 hm
      refine ⟨e.n :: zs, by simp, ?_⟩
      have := Rch.trans (Rch.snoc (Rch.nil (t := t) (s := n)) he) hz
      simpa using this
  · rintro ⟨zs, rfl, hz⟩
    have key : ∀ zs m, Rch t n zs m → (zs = [] ∧ m = n) ∨ ∃ e ∈ kids t n, ∃ us, zs = e.n :: us ∧ Rch t e.i.toNat us m := by
      intro zs m hz
      induction hz with
      | nil => exact .inl ⟨rfl, rfl⟩
      | snoc hz he ih =>
        rcases ih with ⟨rfl, rfl⟩ | ⟨e', he', us, rfl, hus⟩
        · exact .inr ⟨_, he, [], by simp, .nil⟩
        · exact .inr ⟨e', he', _, by simp, .snoc hus he⟩
    rcases key zs m hz with ⟨rfl, rfl⟩ | ⟨e, he, us, rfl, hus⟩
    · exact .inl (by simp)
    · exact .inr ⟨e, he, (ih e he _ _).2 ⟨us, by simp, hus⟩⟩
theorem mem_visits {t : Tr} {s : Nat} (h : Fin t s) {ys : List ByteArray} {m : Nat} : (ys, m) ∈ visits t s ↔ Rch t s ys m := by
  unfold visits
  rw [mem_sub h [] s .nil]
  constructor
  · rintro ⟨zs, rfl, hz⟩; simpa using hz
  · intro hz; exact ⟨ys, by simp, hz⟩

/-- The children of a visit. -/
def next (t : Tr) (r : Vis) : List Vis := (kids t r.2).map fun e => (r.1 ++ [e.n], e.i.toNat)
/-- A list of visits in breadth-first order, with i of them looked at. -/
structure Bfs (t : Tr) (s : Nat) (row : List Vis) (i : Nat) : Prop where
  le : i ≤ row.length
  rch : ∀ r ∈ row, Rch t s r.1 r.2
  perm : (visits t s).Perm (row.take i ++ (row.drop i).flatMap fun r => sub t r.1 r.2)
theorem Bfs.start {t : Tr} {s : Nat} : Bfs t s [([], s)] 0 :=
  ⟨by simp, by simp; exact .nil, by unfold visits; simp⟩
theorem Bfs.step {t : Tr} {s : Nat} (h : Fin t s) {row : List Vis} {i : Nat} (b : Bfs t s row i) (hi : i < row.length) : Bfs t s (row ++ next t row[i]) (i + 1) := by
  have hr := b.rch _ (List.getElem_mem hi)
  refine ⟨by simp; omega, ?_, ?_⟩
  · intro r hm
    rcases List.mem_append.1 hm with hm | hm
    · exact b.rch r hm
    · obtain ⟨e, he, rfl⟩ := List.mem_map.1 hm
      exact .snoc hr he
  · refine b.perm.trans ?_
    rw [List.take_append_of_le_length (by omega), List.drop_append_of_le_length (by omega), List.take_succ_eq_append_getElem hi, List.drop_eq_getElem_cons hi]
    rw [List.flatMap_cons, List.flatMap_append, sub_eq h hr]
    have e : (next t row[i]).flatMap (fun r => sub t r.1 r.2) = (kids t row[i].2).flatMap fun e => sub t (row[i].1 ++ [e.n]) e.i.toNat := by
      unfold next; rw [List.flatMap_map]
    rw [e, List.append_assoc, List.cons_append, List.singleton_append]
    exact List.Perm.append_left _ (List.Perm.cons _ List.perm_append_comm)
theorem Bfs.done {t : Tr} {s : Nat} {row : List Vis} (b : Bfs t s row row.length) : (visits t s).Perm row := by
  have := b.perm
  simpa using this
theorem sub_pos {t : Tr} {s : Nat} (h : Fin t s) {xs : List ByteArray} {n : Nat} (hr : Rch t s xs n) : 1 ≤ (sub t xs n).length := by
  rw [sub_eq h hr]; simp
theorem flat_ge {α β : Type} (f : α → List β) : ∀ l : List α, (∀ x ∈ l, 1 ≤ (f x).length) → l.length ≤ (l.flatMap f).length
  | [], _ => by simp
  | a :: l, h => by
    have h1 := h a (by simp)
    have h2 := flat_ge f l fun x hx => h x (by simp [hx])
    simp only [List.flatMap_cons, List.length_append, List.length_cons]
    omega
theorem Bfs.len {t : Tr} {s : Nat} (h : Fin t s) {row : List Vis} {i : Nat} (b : Bfs t s row i) : row.length ≤ (visits t s).length := by
  have h1 := b.perm.length_eq
  have h2 := flat_ge (fun r : Vis => sub t r.1 r.2) (row.drop i) fun x hx => sub_pos h (b.rch x (List.mem_of_mem_drop hx))
  have h3 := b.le
  simp only [List.length_append, List.length_take, List.length_drop] at h1 h2
  omega

end Go.Proofs.YtmbbmmnpkdfecaaGreatDoor

/- Trees in memory: what a slice of entries and a slice of inodes read as, kept over new blocks. Conditions: as each theorem states. -/

set_option linter.all false
namespace Go.Proofs.YtmbbmmnpkdfecaaGreatDoor
open Go.RowKit

def DE.fits (e : DE) : Prop := e.n.size ≤ maxLen ∧ i64 e.i
theorem deD {es : List DE} {k : Nat} (h : k < es.length) : es.getD k D0 = es[k] := by
  rw [List.getD_eq_getElem?_getD, List.getElem?_eq_getElem h]; rfl
/-- The slice value v reads as the entries es, all of it below block B. -/
def DEs (w : World) (B : Nat) (v : Value) (es : List DE) : Prop :=
  ∃ a c, v = .slice a es.length c ∧ es.length ≤ c ∧ es.length ≤ 35184372088832 ∧ (∀ e ∈ es, e.fits) ∧
    (0 < es.length → ∃ b o, a = some ⟨b, o, none⟩ ∧ b < B ∧ ∀ j, j < es.length →
      w.cell? ⟨b, o + j * 2, none⟩ = some (.string (es.getD j D0).n) ∧ w.cell? ⟨b, o + j * 2 + 1, none⟩ = some (.int .i64 (es.getD j D0).i))
theorem DEs.keep {w w' : World} {B : Nat} {v : Value} {es : List DE} (h : DEs w B v es) (hk : ∀ b o, b < B → w'.cell? ⟨b, o, none⟩ = w.cell? ⟨b, o, none⟩) : DEs w' B v es := by
  obtain ⟨a, c, hv, hc, hl, hf, hx⟩ := h
  refine ⟨a, c, hv, hc, hl, hf, fun h0 => ?_⟩
  obtain ⟨b, o, ha, hB, hj⟩ := hx h0
  refine ⟨b, o, ha, hB, fun j h => ?_⟩
  rw [hk _ _ hB, hk _ _ hB]
  exact hj j h
theorem DEs.more {w : World} {B B' : Nat} {v : Value} {es : List DE} (h : DEs w B v es) (hB : B ≤ B') : DEs w B' v es := by
  obtain ⟨a, c, hv, hc, hl, hf, hx⟩ := h
  refine ⟨a, c, hv, hc, hl, hf, fun h0 => ?_⟩
  obtain ⟨b, o, ha, hb, hj⟩ := hx h0
  exact ⟨b, o, ha, by omega, hj⟩
theorem DEs.up {w w' : World} {v : Value} {es : List DE} (h : DEs w w.heap.size v es) (hb : Below w.heap.size w w') : DEs w' w'.heap.size v es :=
  (h.keep fun b o hB => hb.cell (p := ⟨b, o, none⟩) hB).more hb.size
theorem DEs.fits {w : World} {B : Nat} {v : Value} {es : List DE} (h : DEs w B v es) : ∀ e ∈ es, e.fits := by
  obtain ⟨_, _, _, _, _, hf, _⟩ := h; exact hf
theorem DEs.none_ (w : World) (B : Nat) : DEs w B (.slice none 0 0) [] :=
  ⟨none, 0, rfl, by simp, by simp, by simp, fun h => absurd h (by simp)⟩

/-- The four slices of an inode, and that its numbers are an int's. -/
structure NodS (w : World) (B : Nat) (ve vd va vx : Value) (x : Nod) : Prop where
  es : DEs w B ve x.es
  dl : ∃ a c, vd = .slice a x.dl c ∧ x.dl ≤ c
  dll : x.dl ≤ 140737488355328
  ac : Acls w B va x.ac
  xs : Ats w B vx x.xs
  k : i64 x.k
  o : i64 x.o
  q : i64 x.q
  v : i64 x.v
theorem NodS.keep {w w' : World} {B : Nat} {ve vd va vx : Value} {x : Nod} (h : NodS w B ve vd va vx x) (hk : ∀ b o, b < B → w'.cell? ⟨b, o, none⟩ = w.cell? ⟨b, o, none⟩) : NodS w' B ve vd va vx x :=
  ⟨h.es.keep hk, h.dl, h.dll, h.ac.keep hk, h.xs.keep hk, h.k, h.o, h.q, h.v⟩
theorem NodS.more {w : World} {B B' : Nat} {ve vd va vx : Value} {x : Nod} (h : NodS w B ve vd va vx x) (hB : B ≤ B') : NodS w B' ve vd va vx x :=
  ⟨h.es.more hB, h.dl, h.dll, h.ac.more hB, h.xs.more hB, h.k, h.o, h.q, h.v⟩
theorem NodS.up {w w' : World} {ve vd va vx : Value} {x : Nod} (h : NodS w w.heap.size ve vd va vx x) (hb : Below w.heap.size w w') : NodS w' w'.heap.size ve vd va vx x :=
  (h.keep fun b o hB => hb.cell (p := ⟨b, o, none⟩) hB).more hb.size
/-- An inode as a value. -/
def nodV (x : Nod) (ve vd va vx : Value) : Value := .agg #[.int .i64 x.k, .int .i64 x.o, ve, vd, va, vx, .int .i64 x.q, .int .i64 x.v]
/-- The eight cells of an inode. -/
structure NodC (w : World) (b o : Nat) (ve vd va vx : Value) (x : Nod) : Prop where
  c0 : w.cell? ⟨b, o, none⟩ = some (.int .i64 x.k)
  c1 : w.cell? ⟨b, o + 1, none⟩ = some (.int .i64 x.o)
  c2 : w.cell? ⟨b, o + 2, none⟩ = some ve
  c3 : w.cell? ⟨b, o + 3, none⟩ = some vd
  c4 : w.cell? ⟨b, o + 4, none⟩ = some va
  c5 : w.cell? ⟨b, o + 5, none⟩ = some vx
  c6 : w.cell? ⟨b, o + 6, none⟩ = some (.int .i64 x.q)
  c7 : w.cell? ⟨b, o + 7, none⟩ = some (.int .i64 x.v)
theorem NodC.keep {w w' : World} {b o : Nat} {ve vd va vx : Value} {x : Nod} (h : NodC w b o ve vd va vx x) (hk : ∀ o, w'.cell? ⟨b, o, none⟩ = w.cell? ⟨b, o, none⟩) : NodC w' b o ve vd va vx x :=
  ⟨(hk _).trans h.c0, (hk _).trans h.c1, (hk _).trans h.c2, (hk _).trans h.c3, (hk _).trans h.c4, (hk _).trans h.c5, (hk _).trans h.c6, (hk _).trans h.c7⟩
/-- The slice at a (length, capacity) reads as the inodes t, all of it below block B. -/
structure Nods (w : World) (B : Nat) (a : Option Addr) (c : Nat) (t : Tr) : Prop where
  cap : t.length ≤ c
  len : t.length ≤ 35184372088832
  at_ : 0 < t.length → ∃ b o, a = some ⟨b, o, none⟩ ∧ b < B ∧ ∀ j, j < t.length → ∃ ve vd va vx, NodC w b (o + j * 8) ve vd va vx (nod t j) ∧ NodS w B ve vd va vx (nod t j)
def treeV (a : Option Addr) (n c : Nat) : Value := .agg #[.slice a n c]
theorem Nods.keep {w w' : World} {B c : Nat} {a : Option Addr} {t : Tr} (h : Nods w B a c t) (hk : ∀ b o, b < B → w'.cell? ⟨b, o, none⟩ = w.cell? ⟨b, o, none⟩) : Nods w' B a c t := by
  refine ⟨h.cap, h.len, fun h0 => ?_⟩
  obtain ⟨b, o, ha, hb, hj⟩ := h.at_ h0
  refine ⟨b, o, ha, hb, fun j hjl => ?_⟩
  obtain ⟨ve, vd, va, vx, h1, h2⟩ := hj j hjl
  exact ⟨ve, vd, va, vx, h1.keep fun o => hk b o hb, h2.keep hk⟩
theorem Nods.more {w : World} {B B' c : Nat} {a : Option Addr} {t : Tr} (h : Nods w B a c t) (hB : B ≤ B') : Nods w B' a c t := by
  refine ⟨h.cap, h.len, fun h0 => ?_⟩
  obtain ⟨b, o, ha, hb, hj⟩ := h.at_ h0
  refine ⟨b, o, ha, by omega, fun j hjl => ?_⟩
  obtain ⟨ve, vd, va, vx, h1, h2⟩ := hj j hjl
  exact ⟨ve, vd, va, vx, h1, h2.more hB⟩
theorem Nods.below {w w' : World} {B c : Nat} {a : Option Addr} {t : Tr} (h : Nods w B a c t) (hb : Below B w w') : Nods w' B a c t :=
  h.keep fun b o hB => hb.cell (p := ⟨b, o, none⟩) hB
theorem Nods.up {w w' : World} {c : Nat} {a : Option Addr} {t : Tr} (h : Nods w w.heap.size a c t) (hb : Below w.heap.size w w') : Nods w' w'.heap.size a c t :=
  (h.below hb).more hb.size
/-- One inode of a tree. -/
theorem Nods.one {w : World} {B c : Nat} {a : Option Addr} {t : Tr} (h : Nods w B a c t) {j : Nat} (hj : j < t.length) : ∃ b o ve vd va vx, a = some ⟨b, o, none⟩ ∧ b < B ∧ NodC w b (o + j * 8) ve vd va vx (nod t j) ∧ NodS w B ve vd va vx (nod t j) := by
  obtain ⟨b, o, ha, hb, hx⟩ := h.at_ (by omega)
  obtain ⟨ve, vd, va, vx, h1, h2⟩ := hx j hj
  exact ⟨b, o, ve, vd, va, vx, ha, hb, h1, h2⟩

end Go.Proofs.YtmbbmmnpkdfecaaGreatDoor

/- What a tree without early faults is like: entries, unique ways to directories, walks that end, how long they are. No program. -/

set_option linter.all false
namespace Go.Proofs.YtmbbmmnpkdfecaaGreatDoor
open Go.RowKit

/-! ## Small words -/
theorem pigeon : ∀ (m n : Nat) (f : Nat → Nat), (∀ i, i < n → f i < m) → (∀ i j, i < n → j < n → f i = f j → i = j) → n ≤ m
  | 0, n, f, h, _ => by
    rcases Nat.eq_zero_or_pos n with h0 | h0
    · omega
    · exact absurd (h 0 h0) (by omega)
  | m + 1, n, f, h, inj => by
    by_cases hx : ∃ i, i < n ∧ f i = m
    · obtain ⟨i0, hi0, he⟩ := hx
      have := pigeon m (n - 1) (fun i => if i < i0 then f i else f (i + 1)) (by
        intro i hi
        split
        · rename_i hl
          have h1 := h i (by omega)
          have h2 : f i ≠ m := fun e => by have := inj i i0 (by omega) hi0 (by rw [e, he]); omega
          omega
        · rename_i hl
          have h1 := h (i + 1) (by omega)
          have h2 : f (i + 1) ≠ m := fun e => by have := inj (i + 1) i0 (by omega) hi0 (by rw [e, he]); omega
          omega) (by
        intro i j hi hj hij
        split at hij <;> split at hij
        · exact inj i j (by omega) (by omega) hij
        · have := inj i (j + 1) (by omega) (by omega) hij; omega
        · have := inj (i + 1) j (by omega) (by omega) hij; omega
        · have := inj (i + 1) (j + 1) (by omega) (by omega) hij; omega)
      omega
    · have := pigeon m n f (fun i hi => by
        have h1 := h i hi
        have h2 : f i ≠ m := fun e => hx ⟨i, hi, e⟩
        omega) inj
      omega
theorem nodup_le {l : List Nat} {m : Nat} (h : l.Nodup) (hm : ∀ x ∈ l, x < m) : l.length ≤ m := by
  refine pigeon m l.length (fun i => l.getD i 0) (fun i hi => ?_) (fun i j hi hj e => ?_)
  · have : l.getD i 0 = l[i] := by rw [List.getD_eq_getElem?_getD, List.getElem?_eq_getElem hi]; rfl
    rw [this]; exact hm _ (List.getElem_mem hi)
  · have e1 : l.getD i 0 = l[i] := by rw [List.getD_eq_getElem?_getD, List.getElem?_eq_getElem hi]; rfl
    have e2 : l.getD j 0 = l[j] := by rw [List.getD_eq_getElem?_getD, List.getElem?_eq_getElem hj]; rfl
    rw [e1, e2] at e
    unfold List.Nodup at h
    rw [List.pairwise_iff_getElem] at h
    rcases Nat.lt_trichotomy i j with hl | hl | hl
    · exact absurd e (h i j hi hj hl)
    · exact hl
    · exact absurd e.symm (h j i hj hi hl)
theorem sum_one : ∀ (l : List Nat) (i : Nat) (hi : i < l.length), 1 ≤ l[i] → 1 ≤ l.sum
  | [], i, hi, _ => absurd hi (by simp)
  | a :: l, 0, _, h => by simp only [List.getElem_cons_zero] at h; simp only [List.sum_cons]; omega
  | a :: l, i + 1, hi, h => by
    have := sum_one l i (by simpa using hi) (by simpa using h)
    simp only [List.sum_cons]; omega
theorem sum_two : ∀ (l : List Nat) (i j : Nat) (hi : i < l.length) (hj : j < l.length), i < j → 1 ≤ l[i] → 1 ≤ l[j] → 2 ≤ l.sum
  | [], i, _, hi, _, _, _, _ => absurd hi (by simp)
  | a :: l, 0, j + 1, _, hj, _, h1, h2 => by
    have := sum_one l j (by simpa using hj) (by simpa using h2)
    simp only [List.getElem_cons_zero] at h1
    simp only [List.sum_cons]; omega
  | a :: l, i + 1, j + 1, hi, hj, hij, h1, h2 => by
    have := sum_two l i j (by simpa using hi) (by simpa using hj) (by omega) (by simpa using h1) (by simpa using h2)
    simp only [List.sum_cons]; omega
theorem sum_le_mul {l : List Nat} {m : Nat} (h : ∀ x ∈ l, x ≤ m) : l.sum ≤ l.length * m := by
  induction l with
  | nil => simp
  | cons a l ih =>
    have h1 := h a (by simp)
    have h2 := ih fun x hx => h x (by simp [hx])
    simp only [List.sum_cons, List.length_cons, Nat.add_mul, Nat.one_mul]
    omega

/-! ## A tree whose inodes are valid by themselves -/
structure Ok1 (t : Tr) : Prop where
  ne : 0 < t.length
  le : t.length ≤ 40
  root : (nod t 0).k = 1
  code : ∀ n, n < t.length → codeN t (nod t n) = 0
theorem codeDs_zero (t : Tr) : ∀ (es : List DE) (p : ByteArray), codeDs t p es = 0 → (∀ e ∈ es, vname e.n = true ∧ e.i ≠ 0 ∧ used t e.i = true) ∧ (∀ e ∈ es, ltS p e.n = true) ∧ es.Pairwise (fun a b => ltS a.n b.n = true)
  | [], _, _ => ⟨by simp, by simp, by simp⟩
  | e :: r, p, h => by
    unfold codeDs at h
    split at h
    · rename_i h0
      obtain ⟨i1, i2, i3⟩ := codeDs_zero t r e.n h
      unfold codeD at h0
      split at h0
      · cases h0
      · rename_i h1
        split at h0
        · cases h0
        · rename_i h2
          split at h0
          · cases h0
          · rename_i h3
            have hp : ltS p e.n = true := by simpa using h2
            have h4 : e.i ≠ 0 ∧ used t e.i = true := ⟨fun e => h3 (.inl e), by
              cases hu : used t e.i with
              | true => rfl
              | false => exact absurd (.inr hu) h3⟩
            refine ⟨?_, ?_, ?_⟩
            · intro a ha
              rcases List.mem_cons.1 ha with rfl | ha
              · exact ⟨by simpa using h1, h4⟩
              · exact i1 a ha
            · intro a ha
              rcases List.mem_cons.1 ha with rfl | ha
              · exact hp
              · exact ltS_trans hp (i2 a ha)
            · exact List.pairwise_cons.2 ⟨i2, i3⟩
    · rename_i h0; exact absurd h h0
/-- What a valid inode is. -/
structure Fine (t : Tr) (x : Nod) : Prop where
  kind : x.k = 0 ∨ x.k = 1 ∨ x.k = 2
  len : x.es.length ≤ 16
  dl : x.dl ≤ 200
  q0 : 0 ≤ x.q
  q1 : x.q ≤ 100000
  dir : x.k ≠ 1 → x.es = [] ∧ x.q = 0
  ent : ∀ e ∈ x.es, vname e.n = true ∧ e.i ≠ 0 ∧ used t e.i = true
  srt : x.es.Pairwise (fun a b => ltS a.n b.n = true)
theorem fine_of {t : Tr} {x : Nod} (h : codeN t x = 0) : Fine t x := by
  unfold codeN at h
  split at h
  · rename_i hk
    unfold codeF at h
    split at h
    · rename_i h0
      obtain ⟨h1, _, h3, _⟩ := h0
      have he : x.es = [] := List.eq_nil_of_length_eq_zero (by omega)
      refine ⟨.inl hk, by rw [he]; simp, by omega, by omega, by omega, fun _ => ⟨he, h3⟩, by rw [he]; simp, by rw [he]; simp⟩
    · cases h
  · split at h
    · rename_i hk0 hk
      obtain ⟨hc, _, _, hE⟩ := or4_zero h
      unfold codeC at hc
      split at hc
      · cases hc
      · rename_i h1
        split at hc
        · cases hc
        · rename_i h2
          split at hc
          · cases hc
          · rename_i h3
            unfold codeEs at hE
            split at hE
            · cases hE
            · rename_i h4
              obtain ⟨e1, _, e3⟩ := codeDs_zero t _ _ hE
              refine ⟨.inr hk, by omega, by omega, by omega, by omega, fun hn => ?_, e1, e3⟩
              have h5 : ¬ (0 < x.es.length ∨ x.q ≠ 0) := fun h => h2 (.inr ⟨hn, h⟩)
              exact ⟨List.eq_nil_of_length_eq_zero (by omega), by omega⟩
    · cases h
theorem Ok1.fine {t : Tr} (h : Ok1 t) (n : Nat) : Fine t (nod t n) := by
  rcases Nat.lt_or_ge n t.length with hl | hl
  · exact fine_of (h.code n hl)
  · rw [nod_past hl]
    exact ⟨.inl rfl, by simp, by simp, by simp, by simp, fun _ => ⟨rfl, rfl⟩, by simp, by simp⟩
theorem used_iff {t : Tr} {i : Int} : used t i = true ↔ 0 ≤ i ∧ i.toNat < t.length ∧ (nod t i.toNat).k ≠ 0 := by
  unfold used
  rw [decide_eq_true_iff]
  constructor
  · rintro ⟨h1, h2, h3⟩; exact ⟨h1, by omega, h3⟩
  · rintro ⟨h1, h2, h3⟩; exact ⟨h1, by omega, h3⟩
theorem Ok1.kid {t : Tr} (h : Ok1 t) {n : Nat} {e : DE} (he : e ∈ kids t n) : vname e.n = true ∧ 0 < e.i ∧ e.i.toNat < t.length ∧ (nod t e.i.toNat).k ≠ 0 ∧ (nod t n).k = 1 := by
  obtain ⟨h1, h2, h3⟩ := (h.fine n).ent e he
  obtain ⟨u1, u2, u3⟩ := used_iff.1 h3
  refine ⟨h1, by omega, u2, u3, ?_⟩
  rcases Int.decEq (nod t n).k 1 with hk | hk
  · have := ((h.fine n).dir hk).1
    unfold kids at he
    rw [this] at he
    cases he
  · exact hk
theorem Ok1.rch {t : Tr} (h : Ok1 t) {s m : Nat} {xs : List ByteArray} (hr : Rch t s xs m) (hs : s < t.length) (hk : (nod t s).k ≠ 0) : m < t.length ∧ (nod t m).k ≠ 0 ∧ (∀ x ∈ xs, vname x = true) := by
  induction hr with
  | nil => exact ⟨hs, hk, by simp⟩
  | snoc _ he ih =>
    obtain ⟨k1, _, k3, k4, _⟩ := h.kid he
    refine ⟨k3, k4, ?_⟩
    intro x hx
    rcases List.mem_append.1 hx with hx | hx
    · exact ih.2.2 x hx
    · rw [List.mem_singleton.1 hx]; exact k1
theorem rch_inv {t : Tr} {s m : Nat} {ys : List ByteArray} (h : Rch t s ys m) : (ys = [] ∧ m = s) ∨ ∃ xs p e, ys = xs ++ [e.n] ∧ m = e.i.toNat ∧ Rch t s xs p ∧ e ∈ kids t p := by
  cases h with
  | nil => exact .inl ⟨rfl, rfl⟩
  | snoc h he => exact .inr ⟨_, _, _, rfl, rfl, h, he⟩

/-! ## Directories are referred to once -/
def codeK1 (t : Tr) : Prop := ∀ n, n < t.length → codeLk t n = 0
theorem one_parent {t : Tr} {m : Nat} (h : refs t m = 1) {p p' : Nat} {e e' : DE} (he : e ∈ kids t p) (he' : e' ∈ kids t p') (h1 : e.i = (m : Int)) (h2 : e'.i = (m : Int)) : p = p' ∧ e = e' := by
  have hp : ∀ {p : Nat} {e : DE}, e ∈ kids t p → p < t.length := by
    intro p e he
    rcases Nat.lt_or_ge p t.length with hl | hl
    · exact hl
    · unfold kids at he; rw [nod_past hl] at he; cases he
  have hmem : ∀ {p : Nat} {e : DE}, e ∈ kids t p → e ∈ t.flatMap (·.es) := by
    intro p e he
    refine List.mem_flatMap.2 ⟨nod t p, ?_, he⟩
    rw [nod_at (hp he)]; exact List.getElem_mem _
  constructor
  · have hs : refs t m = (t.map fun x => x.es.countP (fun e => decide (e.i = (m : Int)))).sum := by
      unfold refs; rw [List.countP_flatMap]; rfl
    have hone : ∀ {p : Nat} {e : DE}, e ∈ kids t p → e.i = (m : Int) → ∀ hq : p < (t.map fun x => x.es.countP (fun e => decide (e.i = (m : Int)))).length, 1 ≤ (t.map fun x => x.es.countP (fun e => decide (e.i = (m : Int))))[p] := by
      intro p e he hi hq
      rw [List.getElem_map, ← nod_at (hp he)]
      exact List.countP_pos_iff.2 ⟨e, he, by simpa using hi⟩
    have l1 : p < (t.map fun x => x.es.countP (fun e => decide (e.i = (m : Int)))).length := by simpa using hp he
    have l2 : p' < (t.map fun x => x.es.countP (fun e => decide (e.i = (m : Int)))).length := by simpa using hp he'
    rcases Nat.lt_trichotomy p p' with hl | hl | hl
    · have := sum_two _ p p' l1 l2 hl (hone he h1 l1) (hone he' h2 l2); omega
    · exact hl
    · have := sum_two _ p' p l2 l1 hl (hone he' h2 l2) (hone he h1 l1); omega
  · unfold refs at h
    rw [List.countP_eq_length_filter] at h
    obtain ⟨a, ha⟩ := List.length_eq_one_iff.1 h
    have m1 : e ∈ (t.flatMap (·.es)).filter (fun e => decide (e.i = (m : Int))) := List.mem_filter.2 ⟨hmem he, by simpa using h1⟩
    have m2 : e' ∈ (t.flatMap (·.es)).filter (fun e => decide (e.i = (m : Int))) := List.mem_filter.2 ⟨hmem he', by simpa using h2⟩
    rw [ha] at m1 m2
    rw [List.mem_singleton.1 m1, List.mem_singleton.1 m2]
/-- No entry leads to the root, and one at the most to a directory. -/
structure Ok2 (t : Tr) : Prop extends Ok1 t where
  refr : ∀ n, n < t.length → codeLk t n = 0
theorem Ok2.one {t : Tr} (h : Ok2 t) {m : Nat} (hm : m < t.length) (h0 : m ≠ 0) (hk : (nod t m).k = 1) : refs t m = 1 := by
  have := h.refr m hm
  unfold codeLk at this
  split at this
  · cases this
  · rename_i hn
    rcases Nat.decEq (refs t m) 1 with h1 | h1
    · exact absurd (.inl ⟨hk, h0, h1⟩) hn
    · exact h1
theorem Ok2.uniq {t : Tr} (h : Ok2 t) {m : Nat} {xs : List ByteArray} (hx : Rch t 0 xs m) : ∀ {ys : List ByteArray}, (nod t m).k = 1 → Rch t 0 ys m → xs = ys := by
  induction hx with
  | nil =>
    intro ys _ hy
    rcases rch_inv hy with ⟨rfl, _⟩ | ⟨us, p, e, rfl, hm, _, he⟩
    · rfl
    · have := (h.toOk1.kid he).2.1; omega
  | @snoc xs p e hx he ih =>
    intro ys hk hy
    obtain ⟨_, k2, k3, _, k5⟩ := h.toOk1.kid he
    rcases rch_inv hy with ⟨rfl, hm⟩ | ⟨us, p', e', rfl, hm, hy', he'⟩
    · omega
    · obtain ⟨_, j2, _⟩ := h.toOk1.kid he'
      have hone := h.one k3 (by omega) hk
      obtain ⟨rfl, rfl⟩ := one_parent hone he he' (by omega) (by omega)
      rw [ih k5 hy']
theorem Rch.prefix_ {t : Tr} {s m : Nat} {xs : List ByteArray} (h : Rch t s xs m) : ∀ k, k ≤ xs.length → ∃ p, Rch t s (xs.take k) p ∧ (k < xs.length → ∃ e, e ∈ kids t p) := by
  induction h with
  | nil => intro k hk; exact ⟨s, by simpa using .nil, fun h => absurd h (by simp)⟩
  | @snoc xs p e hx he ih =>
    intro k hk
    rcases Nat.lt_trichotomy k xs.length with hl | hl | hl
    · obtain ⟨q, h1, h2⟩ := ih k (by omega)
      exact ⟨q, by rw [List.take_append_of_le_length (by omega)]; exact h1, fun _ => h2 hl⟩
    · subst hl
      exact ⟨p, by rw [List.take_left']; exact hx; rfl, fun _ => ⟨e, he⟩⟩
    · have : k = (xs ++ [e.n]).length := by simp at hk ⊢; omega
      subst this
      exact ⟨_, by rw [List.take_length]; exact .snoc hx he, fun h => absurd h (by omega)⟩
theorem Ok2.fin {t : Tr} (h : Ok2 t) : Fin t 0 := by
  intro xs m hr
  have hp := hr.prefix_
  refine pigeon t.length xs.length (fun k => if hk : k ≤ xs.length then (hp k hk).choose else 0) (fun i hi => ?_) (fun i j hi hj e => ?_)
  · simp only [dif_pos (Nat.le_of_lt hi)]
    exact (h.toOk1.rch (hp i (Nat.le_of_lt hi)).choose_spec.1 h.ne (by rw [h.root]; simp)).1
  · simp only [dif_pos (Nat.le_of_lt hi), dif_pos (Nat.le_of_lt hj)] at e
    have h1 := (hp i (Nat.le_of_lt hi)).choose_spec
    have h2 := (hp j (Nat.le_of_lt hj)).choose_spec
    rw [← e] at h2
    obtain ⟨d, hd⟩ := h1.2 hi
    have := h.uniq h1.1 (h.toOk1.kid hd).2.2.2.2 h2.1
    have := congrArg List.length this
    simp at this
    omega

/-! ## From any inode that is reached -/
/-- Where a walk may start. -/
structure From (t : Tr) (s : Nat) : Prop where
  fin : Fin t s
  lt : s < t.length
  used : (nod t s).k ≠ 0
  uniq : ∀ xs ys m, (nod t m).k = 1 → Rch t s xs m → Rch t s ys m → xs = ys
theorem Ok2.from0 {t : Tr} (h : Ok2 t) : From t 0 := ⟨h.fin, h.ne, by rw [h.root]; simp, fun _ _ _ hk hx hy => h.uniq hx hk hy⟩
theorem Ok2.from_ {t : Tr} (h : Ok2 t) {zs : List ByteArray} {s : Nat} (hs : Rch t 0 zs s) : From t s := by
  obtain ⟨h1, h2, _⟩ := h.toOk1.rch hs h.ne (by rw [h.root]; simp)
  refine ⟨fun xs m hr => ?_, h1, h2, fun xs ys m hk hx hy => ?_⟩
  · have := h.fin _ _ (hs.trans hr)
    simp at this; omega
  · exact List.append_cancel_left (h.uniq (hs.trans hx) hk (hs.trans hy))

theorem nodup_sub {t : Tr} (h : Ok1 t) {s : Nat} (hf : Fin t s) : ∀ xs n, Rch t s xs n → (sub t xs n).Nodup := by
  refine sub_ind hf _ fun xs n hr ih => ?_
  rw [sub_eq hf hr]
  unfold List.Nodup
  rw [List.pairwise_cons, List.pairwise_flatMap]
  refine ⟨?_, fun e he => ih e he, ?_⟩
  · intro a ha e
    subst e
    obtain ⟨e, he, hm⟩ := List.mem_flatMap.1 ha
    obtain ⟨zs, hz, _⟩ := (mem_sub hf _ _ (.snoc hr he) _ _).1 hm
    have := congrArg List.length hz
    simp at this
  · refine List.Pairwise.imp_of_mem ?_ (h.fine n).srt
    intro a b ha hb hab x hx y hy e
    subst e
    obtain ⟨zs, hz, _⟩ := (mem_sub hf _ _ (.snoc hr ha) x.1 x.2).1 hx
    obtain ⟨us, hu, _⟩ := (mem_sub hf _ _ (.snoc hr hb) x.1 x.2).1 hy
    rw [hz, List.append_assoc, List.append_assoc] at hu
    have := List.append_cancel_left hu
    simp at this
    exact ltS_ne hab this.1
theorem nodup_visits {t : Tr} (h : Ok1 t) {s : Nat} (hf : Fin t s) : (visits t s).Nodup := nodup_sub h hf [] s .nil
theorem len_sub {t : Tr} {s : Nat} (hf : Fin t s) : ∀ xs n, Rch t s xs n → (sub t xs n).length = 1 + ((sub t xs n).map fun r => (kids t r.2).length).sum := by
  refine sub_ind hf _ fun xs n hr ih => ?_
  rw [sub_eq hf hr, List.map_cons, List.sum_cons, List.length_cons]
  have key : ∀ l : List DE, (∀ e ∈ l, e ∈ kids t n) → (l.flatMap fun e => sub t (xs ++ [e.n]) e.i.toNat).length = l.length + ((l.flatMap fun e => sub t (xs ++ [e.n]) e.i.toNat).map fun r => (kids t r.2).length).sum := by
    intro l
    induction l with
    | nil => intro _; simp
    | cons a l il =>
      intro hl
      have h1 := ih a (hl a (by simp))
      have h2 := il fun e he => hl e (by simp [he])
      simp only [List.flatMap_cons, List.length_append, List.map_append, List.sum_append, List.length_cons]
      omega
  have := key (kids t n) fun e he => he
  simp only at this ⊢
  omega
theorem len_visits {t : Tr} (h : Ok1 t) {s : Nat} (f : From t s) : (visits t s).length ≤ 641 := by
  have h1 := len_sub f.fin [] s .nil
  change (visits t s).length = 1 + ((visits t s).map fun r => (kids t r.2).length).sum at h1
  have hdir : ((visits t s).map fun r => (kids t r.2).length).sum = (((visits t s).filter fun r => decide ((nod t r.2).k = 1)).map fun r => (kids t r.2).length).sum := by
    induction visits t s with
    | nil => rfl
    | cons a l ih =>
      rw [List.map_cons, List.sum_cons, List.filter_cons]
      by_cases hk : (nod t a.2).k = 1
      · simp [hk, ih]
      · have : (kids t a.2).length = 0 := by unfold kids; rw [((h.fine a.2).dir hk).1]; rfl
        simp [hk, ih, this]
  have hnd : (((visits t s).filter fun r => decide ((nod t r.2).k = 1)).map (·.2)).Nodup := by
    unfold List.Nodup
    rw [List.pairwise_map]
    refine List.Pairwise.imp_of_mem ?_ ((nodup_visits h f.fin).filter _)
    intro a b ha hb hab e
    obtain ⟨ha1, ha2⟩ := List.mem_filter.1 ha
    obtain ⟨hb1, hb2⟩ := List.mem_filter.1 hb
    have r1 := (mem_visits f.fin (ys := a.1) (m := a.2)).1 ha1
    have r2 := (mem_visits f.fin (ys := b.1) (m := b.2)).1 hb1
    rw [← e] at r2
    have := f.uniq _ _ _ (by simpa using ha2) r1 r2
    exact hab (Prod.ext this e)
  have hlen := nodup_le (m := t.length) hnd (by
    intro x hx
    obtain ⟨r, hr, rfl⟩ := List.mem_map.1 hx
    exact (h.rch ((mem_visits f.fin (ys := r.1) (m := r.2)).1 (List.mem_filter.1 hr).1) f.lt f.used).1)
  have hsum := sum_le_mul (l := ((visits t s).filter fun r => decide ((nod t r.2).k = 1)).map fun r => (kids t r.2).length) (m := 16) (by
    intro x hx
    obtain ⟨r, _, rfl⟩ := List.mem_map.1 hx
    exact (h.fine r.2).len)
  rw [List.length_map] at hlen hsum
  have := h.le
  omega

end Go.Proofs.YtmbbmmnpkdfecaaGreatDoor

/- What a call leaves alone that writes a set of blocks and one row; rows of strings as a call owns them; an append of one string to such a row, with where the new slice lies. Conditions: as each theorem states. -/

set_option linter.all false
namespace Go.Proofs.YtmbbmmnpkdfecaaGreatDoor
open Go.RowKit

/-- All blocks are as they were, but for those of S and one row. -/
structure Kept (S : Nat → Prop) (row : Option Nat) (w w' : World) : Prop where
  os : w'.os = w.os
  tape : w'.tape = w.tape
  output : w'.output = w.output
  size : w.heap.size ≤ w'.heap.size
  block : ∀ k, k < w.heap.size → ¬ S k → some k ≠ row → w'.heap[k]? = w.heap[k]?
theorem Kept.refl (S : Nat → Prop) (row : Option Nat) (w : World) : Kept S row w w := ⟨rfl, rfl, rfl, Nat.le_refl _, fun _ _ _ _ => rfl⟩
theorem Kept.trans {S : Nat → Prop} {row : Option Nat} {a b c : World} (h : Kept S row a b) (k : Kept S row b c) : Kept S row a c :=
  ⟨k.os.trans h.os, k.tape.trans h.tape, k.output.trans h.output, Nat.le_trans h.size k.size, fun i hi hS hr => (k.block i (Nat.lt_of_lt_of_le hi h.size) hS hr).trans (h.block i hi hS hr)⟩
theorem Kept.of_below {S : Nat → Prop} {row : Option Nat} {a b : World} (h : Below a.heap.size a b) : Kept S row a b := ⟨h.os, h.tape, h.output, h.size, fun k hk _ _ => h.block k hk⟩
theorem Kept.of_grown {S : Nat → Prop} {row : Option Nat} {a b : World} (h : a.grownBy b row) : Kept S row a b := ⟨h.os, h.tape, h.output, h.size, fun k hk _ hr => h.block k hk hr⟩
/-- A row that was made since counts as new. -/
theorem Kept.since {S : Nat → Prop} {row r2 : Option Nat} {a b c : World} (h : Kept S row a b) (k : Kept S r2 b c) (hr : ∀ g, r2 = some g → row = some g ∨ a.heap.size ≤ g) : Kept S row a c :=
  ⟨k.os.trans h.os, k.tape.trans h.tape, k.output.trans h.output, Nat.le_trans h.size k.size, fun i hi hS hn => (k.block i (Nat.lt_of_lt_of_le hi h.size) hS (fun e => by
    rcases hr i e.symm with h1 | h1
    · exact hn h1.symm
    · omega)).trans (h.block i hi hS hn)⟩
theorem Kept.below {S : Nat → Prop} {row : Option Nat} {a b : World} (h : Kept S row a b) {B : Nat} (hB : B ≤ a.heap.size) (hS : ∀ k, S k → B ≤ k) (hr : ∀ g, row = some g → B ≤ g) : Below B a b :=
  ⟨h.os, h.tape, h.output, h.size, fun k hk => h.block k (by omega) (fun hs => by have := hS k hs; omega) (fun e => by have := hr k e.symm; omega)⟩
theorem One.kept {S : Nat → Prop} {row : Option Nat} {a b : World} {n : Nat} {v : Value} (h : One a n v) (k : Kept S row a b) (hS : ¬ S n) (hr : some n ≠ row) : One b n v := by
  have hb := k.block n h.lt hS hr
  have f : b.frozen? ⟨n, 0, none⟩ = a.frozen? ⟨n, 0, none⟩ := by unfold World.frozen?; simp only [hb]
  exact ⟨Nat.lt_of_lt_of_le h.lt k.size, (World.cell?_of_block (a := ⟨n, 0, none⟩) hb).trans h.c0, f.trans h.f0⟩
theorem own_block {w w' : World} {base size n : Nat} {e : TypeId} {v : Value} {xs : List Value} (h : w.ownsRow base e size v n xs) (hb : ∀ g, v.ownBlock = some g → g < w.heap.size → w'.heap[g]? = w.heap[g]?) : w'.ownsRow base e size v n xs := by
  refine ⟨h.1, ?_⟩
  rcases h.2 with hn | ⟨g, cap, cur, rfl, hb', hgg, rest⟩
  · exact .inl hn
  · refine .inr ⟨g, cap, cur, rfl, hb', ?_, rest⟩
    rw [hb g rfl (Array.getElem?_eq_some_iff.1 hgg).1]
    exact hgg
theorem own_low {w : World} {base size n : Nat} {e : TypeId} {v : Value} {xs : List Value} (h : w.ownsRow base e size v n xs) : ∀ g, v.ownBlock = some g → base ≤ g := by
  intro g hg
  rcases h.2 with ⟨rfl, _⟩ | ⟨g', cap, cur, rfl, hb', _⟩
  · simp [Value.ownBlock] at hg
  · simp [Value.ownBlock] at hg; omega
theorem own_in {w : World} {base size n : Nat} {e : TypeId} {v : Value} {xs : List Value} (h : w.ownsRow base e size v n xs) : ∀ g, v.ownBlock = some g → g < w.heap.size := by
  intro g hg
  rcases h.2 with ⟨rfl, _⟩ | ⟨g', cap, cur, rfl, hb', hgg, _⟩
  · simp [Value.ownBlock] at hg
  · simp [Value.ownBlock] at hg; subst hg; exact (Array.getElem?_eq_some_iff.1 hgg).1
/-- A row of strings that a call owns reads as these strings. -/
theorem strs_row {w : World} {base n : Nat} {v : Value} {xs : List ByteArray} (h : w.ownsRow base 9 1 v n (xs.map Value.string)) (hf : ∀ x ∈ xs, x.size ≤ maxLen) (hl : xs.length ≤ 35184372088832) : Strs w w.heap.size v xs := by
  have hn : n = xs.length := by have := h.1; simp at this; omega
  subst hn
  rcases h.2 with ⟨hv, h0⟩ | ⟨g, cap, cur, hv, _, hg, hnc, _, _, _⟩
  · have : xs = [] := List.eq_nil_of_length_eq_zero h0
    subst this
    rw [hv]
    exact ⟨none, 0, rfl, by simp, by simp, by simp, fun h => absurd h (by simp)⟩
  · have hlt : g < w.heap.size := (Array.getElem?_eq_some_iff.1 hg).1
    rw [hv] at h
    refine ⟨_, cap, hv, hnc, hl, hf, fun _ => ⟨g, 0, rfl, hlt, fun j hj => ?_⟩⟩
    rw [Nat.zero_add, h.cellAt j (by omega), List.getElem?_map, List.getD_eq_getElem?_getD, List.getElem?_eq_getElem hj]
    rfl

theorem str_info : (Tryz.prog.info? 9).map (fun i => (i.zero, i.size, i.bytes)) = some (some (.string ByteArray.empty), 1, 16) := by kernel_rfl
/-- Where the row is that an append of one string leaves. -/
structure Put1 (w w' : World) (base : Nat) (v : Value) (n : Nat) (xs : List Value) (y : ByteArray) (g cap : Nat) : Prop where
  own : w'.ownsRow base 9 1 (.slice (some ⟨g, 0, none⟩) (n + 1) cap) (n + 1) (xs ++ [.string y])
  grown : w.grownBy w' v.ownBlock
  at_ : v = .slice (some ⟨g, 0, none⟩) n cap ∨ (g = w.heap.size ∧ w.grownBy w' none)
theorem run_put1 (w : World) (ty : TypeId) (base : Nat) (v : Value) (n : Nat) (xs : List Value) (hown : w.ownsRow base 9 1 v n xs) (q : Nat) (y : ByteArray) (hc : w.cell? ⟨q, 0, none⟩ = some (.string y)) (hn : n ≤ 100000) (hbase : base ≤ w.heap.size) :
    ∃ g cap w', (Builtin.append_ #[31, 31] ty #[v, .slice (some ⟨q, 0, none⟩) 1 1]).run Tryz.prog w = .ok (.slice (some ⟨g, 0, none⟩) (n + 1) cap) w' ∧ Put1 w w' base v n xs y g cap := by
  obtain ⟨i0, hi, hz0, hz1, hz2⟩ := info_parts str_info
  have hnews : ∀ j u, [Value.string y][j]? = some u → w.cell? ((⟨q, 0, none⟩ : Addr).add j) = some u := by
    intro j u hu
    match j, hu with
    | 0, hu =>
      have e : u = .string y := by simpa using hu.symm
      rw [e]; simpa [Addr.add] using hc
    | j + 1, hu => simp at hu
  obtain ⟨v', w', hr, h2, h3, _, h5⟩ := run_append_own_at (P := Tryz.prog) w base 31 ty 9 i0 _ 1 16 Tryz.underlying31 hi hz0 hz1 hz2 rfl (by omega) v n xs hown ⟨q, 0, none⟩ 1 1 [.string y] rfl hnews (by simp [Value.oneCell']) (by unfold maxLen; omega) (by omega) hbase
  obtain ⟨g, cap, rfl, _, _⟩ := h2.form (by omega)
  refine ⟨g, cap, w', hr, h2, h3, ?_⟩
  rcases hown.2 with ⟨rfl, _⟩ | ⟨g', cap', cur, rfl, hb', hgg, hnc, hcm, hcs, htake⟩
  · right
    rcases h5 with h5 | h5
    · simp [Value.ownBlock] at h5
    · exact ⟨by simpa [Value.ownBlock] using h5, by simpa [Value.ownBlock] using h3⟩
  · have hgl := (Array.getElem?_eq_some_iff.1 hgg).1
    by_cases hroom : n + 1 ≤ cap'
    · have hr2 := run_append_room (P := Tryz.prog) (w := w) 31 ty 9 i0 Tryz.underlying31 hi g' n cap' cur hgg ⟨q, 0, none⟩ 1 1 [.string y] (by rw [hz1]; rfl) hnews (by simp [Value.oneCell']) hroom (by rw [hz1, hcs]; simp; omega)
      rw [hr] at hr2
      injection hr2 with e1 e2
      injection e1 with e3 _ e4
      injection e3 with e3
      injection e3 with e3 _ _
      exact .inl (by rw [e3, e4])
    · have holds : ∀ j u, xs[j]? = some u → w.cell? ((⟨g', 0, none⟩ : Addr).add j) = some u := hown.cells (g := g') rfl
      have hr2 := run_append_grow (P := Tryz.prog) (w := w) 31 ty 9 i0 _ Tryz.underlying31 hi hz0 ⟨g', 0, none⟩ n cap' xs (by rw [hz1]; exact hown.1) holds ⟨q, 0, none⟩ 1 1 [.string y] (by rw [hz1]; rfl) hnews (by omega) (by omega) (growslice_fits (by omega) (by rw [hz2]; omega))
      rw [hr] at hr2
      injection hr2 with e1 e2
      injection e1 with e3 _ _
      injection e3 with e3
      injection e3 with e3 _ _
      right
      refine ⟨e3, ?_⟩
      rw [e2]
      exact ⟨rfl, rfl, rfl, by simp, fun k hk _ => heap_alloc_old w.drew _ hk⟩
/-- As a step of a region that draws its order. -/
theorem step_put1 {w : World} {ops : Array Oper} {o : Oper} {a : Act} {K : Act → World → Prop} {Q : Exit → Act → World → Prop} {E : Prop} (hgd : o.guard = none) (s x : Operand)
    (ho : o.op = .call { callee := .builtin .append, args := #[s, x], argTypes := #[31, 31] })
    (base : Nat) (v : Value) (n : Nat) (xs : List Value) (hs : a.eval s = v) (hown : w.ownsRow base 9 1 v n xs)
    (q : Nat) (y : ByteArray) (hx : a.eval x = .slice (some ⟨q, 0, none⟩) 1 1) (hc : w.cell? ⟨q, 0, none⟩ = some (.string y))
    (hn : n ≤ 100000) (hbase : base ≤ w.heap.size)
    (hK : ∀ g cap w', Put1 w w' base v n xs y g cap → K (a.put o.dst (.slice (some ⟨g, 0, none⟩) (n + 1) cap)) w') :
    if Region.wanted o (yielded ops a.tmps) = true then Oper.wp Tryz.prog o a w K Q else E := by
  have hw : Region.wanted o (yielded ops a.tmps) = true := by simp [Region.wanted, hgd]
  rw [if_pos hw]
  obtain ⟨g, cap, w', hrun, hp⟩ := run_put1 w o.type base v n xs hown q y hc hn hbase
  unfold Oper.wp
  simp [execOp, ho, resolve, invoke, builtin, hs, hx, hrun, Result.andThen]
  exact hK g cap w' hp
/-- In a plain region. -/
theorem wpList_put1 {w : World} {ops : Array Oper} {rest : List Oper} {o : Oper} {a : Act} {Q : Exit → Act → World → Prop} (hgd : o.guard = none) (s x : Operand)
    (ho : o.op = .call { callee := .builtin .append, args := #[s, x], argTypes := #[31, 31] })
    (base : Nat) (v : Value) (n : Nat) (xs : List Value) (hs : a.eval s = v) (hown : w.ownsRow base 9 1 v n xs)
    (q : Nat) (y : ByteArray) (hx : a.eval x = .slice (some ⟨q, 0, none⟩) 1 1) (hc : w.cell? ⟨q, 0, none⟩ = some (.string y))
    (hn : n ≤ 100000) (hbase : base ≤ w.heap.size)
    (hK : ∀ g cap w', Put1 w w' base v n xs y g cap → wpList Tryz.prog ops Q rest (a.put o.dst (.slice (some ⟨g, 0, none⟩) (n + 1) cap)) w') : wpList Tryz.prog ops Q (o :: rest) a w := by
  refine wpList_plain hgd fun K hK2 => ?_
  obtain ⟨g, cap, w', hrun, hp⟩ := run_put1 w o.type base v n xs hown q y hc hn hbase
  unfold Oper.wp
  simp [execOp, ho, resolve, invoke, builtin, hs, hx, hrun, Result.andThen]
  exact hK2 _ _ (hK g cap w' hp)

end Go.Proofs.YtmbbmmnpkdfecaaGreatDoor

/- The fault of a tree, in plain words: what is reached, what lies too far, how much lies below. No program. -/

set_option linter.all false
namespace Go.Proofs.YtmbbmmnpkdfecaaGreatDoor
open Go.RowKit

def hasL (L : List Vis) (n : Nat) : Bool := L.any fun p => decide (p.2 = n)
def tooFar (xs : List ByteArray) : Bool := decide ((joinF xs).1 ≠ 0)
def farL (L : List Vis) (n : Nat) : Bool := L.any fun p => decide (p.2 = n) && tooFar p.1
theorem hasL_snoc (L : List Vis) (p : Vis) (n : Nat) : hasL (L ++ [p]) n = (hasL L n || decide (p.2 = n)) := by unfold hasL; simp
theorem farL_snoc (L : List Vis) (p : Vis) (n : Nat) : farL (L ++ [p]) n = (farL L n || (decide (p.2 = n) && tooFar p.1)) := by unfold farL; simp
theorem any_perm {α : Type} {p : α → Bool} {L M : List α} (h : L.Perm M) : L.any p = M.any p := by
  rw [Bool.eq_iff_iff, List.any_eq_true, List.any_eq_true]
  constructor
  · rintro ⟨x, hx, hp⟩; exact ⟨x, h.mem_iff.1 hx, hp⟩
  · rintro ⟨x, hx, hp⟩; exact ⟨x, h.mem_iff.2 hx, hp⟩
theorem hasL_perm {L M : List Vis} (h : L.Perm M) (n : Nat) : hasL L n = hasL M n := any_perm h
theorem farL_perm {L M : List Vis} (h : L.Perm M) (n : Nat) : farL L n = farL M n := any_perm h
theorem hasL_iff {L : List Vis} {n : Nat} : hasL L n = true ↔ ∃ xs, (xs, n) ∈ L := by
  unfold hasL
  rw [List.any_eq_true]
  constructor
  · rintro ⟨⟨xs, m⟩, hx, hm⟩; simp at hm; subst hm; exact ⟨xs, hx⟩
  · rintro ⟨xs, hx⟩; exact ⟨_, hx, by simp⟩

/-- The size of the distinct files of a list of visits. -/
def usg (t : Tr) (L : List Vis) : Nat := ((List.range t.length).map fun i => if hasL L i = true then (nod t i).dl else 0).sum
theorem usg_perm (t : Tr) {L M : List Vis} (h : L.Perm M) : usg t L = usg t M := by
  unfold usg
  simp only [hasL_perm h]
theorem usg_nil (t : Tr) : usg t [] = 0 := by
  have := sum_le_mul (l := (List.range t.length).map fun i => if hasL [] i = true then (nod t i).dl else 0) (m := 0) (by
    intro x hx
    obtain ⟨i, _, rfl⟩ := List.mem_map.1 hx
    simp [hasL])
  unfold usg
  omega
theorem sum_map_add (f g : Nat → Nat) : ∀ l : List Nat, (l.map fun i => f i + g i).sum = (l.map f).sum + (l.map g).sum
  | [] => rfl
  | a :: l => by simp only [List.map_cons, List.sum_cons, sum_map_add f g l]; omega
theorem sum_one_at (d : Nat → Nat) (n : Nat) : ∀ m, ((List.range m).map fun i => if n = i then d i else 0).sum = if n < m then d n else 0
  | 0 => by simp
  | m + 1 => by
    rw [List.range_succ, List.map_append, List.sum_append, sum_one_at d n m]
    simp only [List.map_cons, List.map_nil, List.sum_cons, List.sum_nil, Nat.add_zero]
    by_cases h : n = m
    · subst h; simp
    · rw [if_neg h]
      by_cases h2 : n < m
      · rw [if_pos h2, if_pos (by omega)]; omega
      · rw [if_neg h2, if_neg (by omega)]
theorem usg_snoc {t : Tr} {L : List Vis} {p : Vis} (hp : p.2 < t.length) : usg t (L ++ [p]) = if hasL L p.2 = true then usg t L else usg t L + (nod t p.2).dl := by
  unfold usg
  simp only [hasL_snoc]
  by_cases h : hasL L p.2 = true
  · rw [if_pos h]
    congr 1
    refine List.map_congr_left fun i _ => ?_
    by_cases e : p.2 = i
    · subst e; simp [h]
    · simp [e]
  · rw [if_neg h]
    have h2 : ((List.range t.length).map fun i => if (hasL L i || decide (p.2 = i)) = true then (nod t i).dl else 0) = (List.range t.length).map fun i => (if hasL L i = true then (nod t i).dl else 0) + (if p.2 = i then (nod t i).dl else 0) := by
      refine List.map_congr_left fun i _ => ?_
      by_cases e : p.2 = i
      · subst e; simp [h]
      · simp [e]
    rw [h2, sum_map_add, sum_one_at, if_pos hp]
theorem usg_le {t : Tr} (h : Ok1 t) (L : List Vis) : usg t L ≤ 8000 := by
  unfold usg
  have := sum_le_mul (l := (List.range t.length).map fun i => if hasL L i = true then (nod t i).dl else 0) (m := 200) (by
    intro x hx
    obtain ⟨i, _, rfl⟩ := List.mem_map.1 hx
    have := (h.fine i).dl
    split <;> omega)
  simp only [List.length_map, List.length_range] at this
  have := h.le
  omega

def codeP (t : Tr) (n : Nat) : Int :=
  if (nod t n).k ≠ 0 ∧ hasL (visits t 0) n = false then 11 else if farL (visits t 0) n = true then 10 else 0
def codeQ (t : Tr) (n : Nat) : Int := if (nod t n).q ≠ 0 ∧ (nod t n).q < (usg t (visits t n) : Int) then 14 else 0
/-- The four checks. -/
def codeK (t : Tr) (k n : Nat) : Int := match k with
  | 0 => codeN t (nod t n)
  | 1 => codeLk t n
  | 2 => codeP t n
  | _ => codeQ t n
/-- The first inode that a check finds a fault of. -/
def chk (t : Tr) (k : Nat) : Int × Int := firstNZ (codeK t k) t.length 0
def scanK (t : Tr) : Nat → Nat → Int × Int
  | 0, _ => (0, 0)
  | m + 1, k => if (chk t k).1 = 0 then scanK t m (k + 1) else chk t k
def valT (t : Tr) : Int × Int :=
  if t.length = 0 then (6, 0) else if 40 < t.length then (2, 0) else if (nod t 0).k ≠ 1 then (8, 0) else scanK t 4 0
/-- The checks ahead of number k find nothing. -/
def Pass (t : Tr) (k : Nat) : Prop := ∀ j, j < k → ∀ n, n < t.length → codeK t j n = 0
structure Head (t : Tr) : Prop where
  ne : 0 < t.length
  le : t.length ≤ 40
  root : (nod t 0).k = 1
theorem chk_hit {t : Tr} {k i : Nat} {c : Int} (hi : i < t.length) (hc : codeK t k i = c) (hn : ¬ c = 0) (hA : ∀ j, j < i → codeK t k j = 0) : chk t k = (c, (i : Int)) := by
  unfold chk
  rw [firstNZ_hit (codeK t k) t.length 0 i hi (by rw [Nat.zero_add, hc]; exact hn) (by intro j hj; rw [Nat.zero_add]; exact hA j hj)]
  rw [Nat.zero_add, hc]
theorem chk_miss {t : Tr} {k : Nat} (hA : ∀ j, j < t.length → codeK t k j = 0) : chk t k = (0, 0) := by
  unfold chk
  exact firstNZ_miss _ _ _ (by intro j hj; rw [Nat.zero_add]; exact hA j hj)
theorem scanK_hit (t : Tr) : ∀ (m k d : Nat), d < m → (∀ j, j < d → (chk t (k + j)).1 = 0) → (chk t (k + d)).1 ≠ 0 → scanK t m k = chk t (k + d)
  | 0, _, _, h, _, _ => absurd h (by omega)
  | m + 1, k, 0, _, _, h => by unfold scanK; rw [if_neg (by simpa using h)]; simp
  | m + 1, k, d + 1, hd, hA, h => by
    have h0 := hA 0 (by omega)
    unfold scanK
    rw [if_pos (by simpa using h0), scanK_hit t m (k + 1) d (by omega) (fun j hj => by have := hA (j + 1) (by omega); rwa [show k + (j + 1) = k + 1 + j by omega] at this) (by rwa [show k + (d + 1) = k + 1 + d by omega] at h), show k + (d + 1) = k + 1 + d by omega]
theorem scanK_miss (t : Tr) : ∀ (m k : Nat), (∀ j, j < m → (chk t (k + j)).1 = 0) → scanK t m k = (0, 0)
  | 0, _, _ => rfl
  | m + 1, k, hA => by
    have h0 := hA 0 (by omega)
    unfold scanK
    rw [if_pos (by simpa using h0), scanK_miss t m (k + 1) (fun j hj => by have := hA (j + 1) (by omega); rwa [show k + (j + 1) = k + 1 + j by omega] at this)]
theorem scanK_zero (t : Tr) : ∀ (m k : Nat), (scanK t m k).1 = 0 → ∀ j, j < m → (chk t (k + j)).1 = 0
  | 0, _, _, j, hj => absurd hj (by omega)
  | m + 1, k, h, j, hj => by
    unfold scanK at h
    split at h
    · rename_i h0
      cases j with
      | zero => simpa using h0
      | succ j => have := scanK_zero t m (k + 1) h j (by omega); rwa [show k + (j + 1) = k + 1 + j by omega]
    · rename_i h0; exact absurd h h0
theorem Pass.chk0 {t : Tr} {k : Nat} (h : Pass t k) : ∀ j, j < k → (chk t j).1 = 0 := fun j hj => by rw [chk_miss (h j hj)]
theorem Pass.succ {t : Tr} {k : Nat} (h : Pass t k) (h2 : ∀ n, n < t.length → codeK t k n = 0) : Pass t (k + 1) := fun j hj n hn => by
  by_cases e : j = k
  · subst e; exact h2 n hn
  · exact h j (by omega) n hn
theorem valT_hit {t : Tr} (h : Head t) {k i : Nat} {c : Int} (hk : k < 4) (hp : Pass t k) (hi : i < t.length) (hc : codeK t k i = c) (hn : ¬ c = 0) (hA : ∀ j, j < i → codeK t k j = 0) : valT t = (c, (i : Int)) := by
  have := h.ne; have := h.le
  have e := chk_hit hi hc hn hA
  unfold valT
  rw [if_neg (by omega), if_neg (by omega), if_neg (by rw [h.root]; simp), scanK_hit t 4 0 k hk (fun j hj => by rw [Nat.zero_add]; exact hp.chk0 j hj) (by rw [Nat.zero_add, e]; exact hn), Nat.zero_add, e]
theorem valT_miss {t : Tr} (h : Head t) (hp : Pass t 4) : valT t = (0, 0) := by
  have := h.ne; have := h.le
  unfold valT
  rw [if_neg (by omega), if_neg (by omega), if_neg (by rw [h.root]; simp), scanK_miss t 4 0 (fun j hj => by rw [Nat.zero_add]; exact hp.chk0 j hj)]
theorem valT_none {t : Tr} (h : t.length = 0) : valT t = (6, 0) := by unfold valT; rw [if_pos h]
theorem valT_many {t : Tr} (h : 40 < t.length) : valT t = (2, 0) := by unfold valT; rw [if_neg (by omega), if_pos h]
theorem valT_root {t : Tr} (h : ¬ t.length = 0) (h2 : ¬ 40 < t.length) (h3 : (nod t 0).k ≠ 1) : valT t = (8, 0) := by unfold valT; rw [if_neg h, if_neg h2, if_pos h3]
theorem firstNZ_one (f : Nat → Int) (m i : Nat) : (firstNZ f m i).1 = 0 → firstNZ f m i = (0, 0) := by
  intro h
  exact firstNZ_miss f m i (firstNZ_zero f m i h)
theorem valT_ok {t : Tr} (h : (valT t).1 = 0) : Head t ∧ Pass t 4 := by
  unfold valT at h
  split at h
  · cases h
  · rename_i h0
    split at h
    · cases h
    · rename_i h1
      split at h
      · cases h
      · rename_i h2
        refine ⟨⟨by omega, by omega, by simpa using h2⟩, fun j hj n hn => ?_⟩
        have := scanK_zero t 4 0 h j hj
        rw [Nat.zero_add] at this
        have := firstNZ_zero (codeK t j) t.length 0 this n hn
        rwa [Nat.zero_add] at this
theorem valT_zero {t : Tr} (h : (valT t).1 = 0) : valT t = (0, 0) := valT_miss (valT_ok h).1 (valT_ok h).2

/-! ## What has passed -/
theorem Pass.ok1 {t : Tr} (h : Head t) (p : Pass t 1) : Ok1 t := ⟨h.ne, h.le, h.root, fun n hn => p 0 (by omega) n hn⟩
theorem Pass.ok2 {t : Tr} (h : Head t) (p : Pass t 2) : Ok2 t := ⟨Pass.ok1 h fun j hj => p j (by omega), fun n hn => p 1 (by omega) n hn⟩
theorem Pass.mono {t : Tr} {k j : Nat} (p : Pass t k) (h : j ≤ k) : Pass t j := fun i hi => p i (by omega)
theorem Pass.from_ {t : Tr} (h : Head t) (p : Pass t 3) {n : Nat} (hn : n < t.length) (hk : (nod t n).k ≠ 0) : From t n ∧ ∃ zs, Rch t 0 zs n := by
  have o2 := Pass.ok2 h (p.mono (by omega))
  have hc : codeP t n = 0 := p 2 (by omega) n hn
  unfold codeP at hc
  split at hc
  · cases hc
  · rename_i h1
    have : hasL (visits t 0) n = true := by
      cases hh : hasL (visits t 0) n with
      | true => rfl
      | false => exact absurd ⟨hk, hh⟩ h1
    obtain ⟨xs, hx⟩ := hasL_iff.1 this
    have := (mem_visits o2.fin).1 hx
    exact ⟨o2.from_ this, xs, this⟩
/-- A file or directory that is reached. -/
theorem tooFar_iff {xs : List ByteArray} (hv : ∀ x ∈ xs, vname x = true) : tooFar xs = (decide (8 < xs.length) || decide (100 < (pstr xs).length)) := by
  have hb : firstBad xs = xs.length := by
    unfold firstBad
    rw [List.findIdx_eq_length]
    intro x hx; simp [hv x hx]
  have hc : compFault xs = if 8 < xs.length then (10, 0) else (0, 0) := by unfold compFault; rw [hb, if_neg (by omega)]
  unfold tooFar joinF
  rw [hc]
  by_cases h8 : 8 < xs.length
  · simp [h8]
  · simp only [if_neg h8, if_true]
    by_cases h1 : 100 < (pstr xs).length
    · simp [h1]
    · simp [h1, h8]

end Go.Proofs.YtmbbmmnpkdfecaaGreatDoor

/- find of package fstree: the binary search for a name in the entries of a directory. Conditions: the slice's cells lie in memory as they read; the list is sorted by name. -/

set_option linter.all false
namespace Go.Proofs.YtmbbmmnpkdfecaaGreatDoor
open Go.RowKit

theorem strs_at {w : World} {B n c : Nat} {a : Option Addr} {xs : List ByteArray} (h : Strs w B (.slice a n c) xs) (h0 : 0 < xs.length) : ∃ b o, a = some ⟨b, o, none⟩ ∧ b < B ∧ ∀ j, j < xs.length → w.cell? ⟨b, o + j, none⟩ = some (.string (xs.getD j ByteArray.empty)) := by
  obtain ⟨a', c', hv, _, _, _, hx⟩ := h
  injection hv with h1 _ h2
  subst h1
  exact hx h0
theorem deD_mem {es : List DE} {k : Nat} (h : k < es.length) : es.getD k D0 ∈ es := by rw [deD h]; exact List.getElem_mem h
/-- How many names are less. -/
def lowE (xs : List DE) (nm : ByteArray) : Nat := xs.countP (fun a => ltS a.n nm)
def fndE (xs : List DE) (nm : ByteArray) : Bool := decide (lowE xs nm < xs.length ∧ (xs.getD (lowE xs nm) D0).n = nm)
theorem countE_split (p : DE → Bool) : ∀ (l : List DE) (i : Nat), i ≤ l.length → (∀ j, j < i → p (l.getD j D0) = true) → (∀ j, i ≤ j → j < l.length → p (l.getD j D0) = false) → l.countP p = i
  | [], i, hi, _, _ => by
    have : i = 0 := by simpa using hi
    simp [this]
  | a :: r, 0, _, _, h2 => by
    have ha : p a = false := by simpa using h2 0 (Nat.le_refl _) (by simp)
    have := countE_split p r 0 (Nat.zero_le _) (fun j hj => absurd hj (Nat.not_lt_zero _)) (fun j _ hj => by simpa using h2 (j + 1) (Nat.zero_le _) (by simpa using hj))
    simp [ha, this]
  | a :: r, i + 1, hi, h1, h2 => by
    have ha : p a = true := by simpa using h1 0 (Nat.succ_pos _)
    have := countE_split p r i (by simpa using hi) (fun j hj => by simpa using h1 (j + 1) (by omega)) (fun j hij hj => by simpa using h2 (j + 1) (by omega) (by simpa using hj))
    simp [ha, this]
theorem srtE_at {xs : List DE} (h : xs.Pairwise (fun a b => ltS a.n b.n = true)) {i j : Nat} (hij : i < j) (hj : j < xs.length) : ltS (xs.getD i D0).n (xs.getD j D0).n = true := by
  rw [deD (by omega), deD hj]
  exact List.pairwise_iff_getElem.1 h i j (by omega) hj hij
/-- What the binary search's loop knows when it stops. -/
theorem lowE_of {xs : List DE} {nm : ByteArray} {i : Nat} (hi : i ≤ xs.length) (h1 : ∀ j, j < i → ltS (xs.getD j D0).n nm = true) (h2 : ∀ j, i ≤ j → j < xs.length → ltS (xs.getD j D0).n nm = false) : lowE xs nm = i :=
  countE_split _ xs i hi h1 h2
theorem lowE_le (xs : List DE) (nm : ByteArray) : lowE xs nm ≤ xs.length := List.countP_le_length
theorem lowE_lo {xs : List DE} (h : xs.Pairwise (fun a b => ltS a.n b.n = true)) (nm : ByteArray) : (∀ j, j < lowE xs nm → ltS (xs.getD j D0).n nm = true) ∧ (∀ j, lowE xs nm ≤ j → j < xs.length → ltS (xs.getD j D0).n nm = false) := by
  induction xs with
  | nil => exact ⟨fun j hj => by simp [lowE] at hj, fun j _ hj => by simp at hj⟩
  | cons a r ih =>
    rw [List.pairwise_cons] at h
    obtain ⟨i1, i2⟩ := ih h.2
    cases ha : ltS a.n nm with
    | true =>
      have e : lowE (a :: r) nm = lowE r nm + 1 := by unfold lowE; rw [List.countP_cons]; simp [ha]
      rw [e]
      refine ⟨fun j hj => ?_, fun j hj hl => ?_⟩
      · cases j with
        | zero => simpa using ha
        | succ j => simpa using i1 j (by omega)
      · cases j with
        | zero => omega
        | succ j => simpa using i2 j (by omega) (by simpa using hl)
    | false =>
      have hall : ∀ b ∈ r, ltS b.n nm = false := fun b hb => by
        cases hb2 : ltS b.n nm with
        | false => rfl
        | true => rw [ltS_trans (h.1 b hb) hb2] at ha; cases ha
      have e : lowE (a :: r) nm = 0 := by
        unfold lowE; rw [List.countP_cons, List.countP_eq_zero.2 (fun b hb => by rw [hall b hb]; simp)]; simp [ha]
      rw [e]
      refine ⟨fun j hj => by omega, fun j _ hl => ?_⟩
      cases j with
      | zero => simpa using ha
      | succ j => simpa using hall _ (deD_mem (by simpa using hl))
theorem fndE_iff {xs : List DE} {nm : ByteArray} : fndE xs nm = true ↔ lowE xs nm < xs.length ∧ (xs.getD (lowE xs nm) D0).n = nm := by unfold fndE; simp
def FcmpS (a b : ByteArray) : Int := if ltS a b = true then -1 else if ltS b a = true then 1 else 0
theorem FcmpS_lt {a b : ByteArray} : FcmpS a b < 0 ↔ ltS a b = true := by
  unfold FcmpS; split
  · rename_i h; simp [h]
  · rename_i h; split
    · simp [h]
    · simp [h]
theorem FcmpS_eq {a b : ByteArray} : FcmpS a b = 0 ↔ a = b := by
  unfold FcmpS; split
  · rename_i h; exact ⟨fun h' => (by cases h'), fun e => absurd e (ltS_ne h)⟩
  · rename_i h; split
    · rename_i h2; exact ⟨fun h' => (by cases h'), fun e => absurd e.symm (ltS_ne h2)⟩
    · rename_i h2; exact ⟨fun _ => ltS_eq (by simpa using h) (by simpa using h2), fun _ => rfl⟩
set_option maxHeartbeats 400000 in
theorem FnanS_any (a : ByteArray) (w : World) :
    Calls Tryz.prog 146 #[.string a] w fun e w' => e = .returned (.bool false) ∧ w' = w := by
  have hb : (a.toList == a.toList) = true := by simp
  go_enter Tryz.func146, Tryz.ntmps146
  go_wp2
  all_goals
    go_ret
    exact ⟨by first | rfl | simp, rfl⟩
set_option maxHeartbeats 400000 in
theorem FcompareS_any (a b : ByteArray) (w : World) :
    Calls Tryz.prog 97 #[.string a, .string b] w fun e w' => e = .returned (.int .i64 (FcmpS a b)) ∧ w' = w := by
  have HF := Lib.hid (show FcmpS a b = if ltS a b = true then -1 else if ltS b a = true then 1 else 0 from rfl)
  generalize FcmpS a b = q at *
  cases h1 : ltS a b with
  | true =>
    have hb : Op.bytesLess a.toList b.toList = true := h1
    rw [h1, if_pos rfl] at HF
    clear h1
    go_enter Tryz.func97, Tryz.ntmps97
    go_wp2_with fail
    refine (FnanS_any _ _).mono ?_
    rintro e w' ⟨rfl, rfl⟩
    go_wp2_with fail
    refine (FnanS_any _ _).mono ?_
    rintro e w' ⟨rfl, rfl⟩
    go_wp2_with fail
    go_ret
    exact ⟨ret_int HF.out.symm, rfl⟩
  | false =>
    have hb : Op.bytesLess a.toList b.toList = false := h1
    rw [h1, if_neg (by simp)] at HF
    cases h2 : ltS b a with
    | true =>
      have hn : (a.toList == b.toList) = false := by rw [beq_str]; simpa using (ltS_ne h2).symm
      rw [h2, if_pos rfl] at HF
      clear h1 h2
      go_enter Tryz.func97, Tryz.ntmps97
      go_wp2_with fail
      refine (FnanS_any _ _).mono ?_
      rintro e w' ⟨rfl, rfl⟩
      go_wp2_with fail
      refine (FnanS_any _ _).mono ?_
      rintro e w' ⟨rfl, rfl⟩
      go_wp2_with fail
      go_ret
      exact ⟨ret_int HF.out.symm, rfl⟩
    | false =>
      have hn : (a.toList == b.toList) = true := by rw [beq_str]; simpa using ltS_eq h1 h2
      rw [h2, if_neg (by simp)] at HF
      clear h1 h2
      go_enter Tryz.func97, Tryz.ntmps97
      go_wp2_with fail
      refine (FnanS_any _ _).mono ?_
      rintro e w' ⟨rfl, rfl⟩
      go_wp2_with fail
      refine (FnanS_any _ _).mono ?_
      rintro e w' ⟨rfl, rfl⟩
      go_wp2_with fail
      go_ret
      exact ⟨ret_int HF.out.symm, rfl⟩
set_option maxHeartbeats 400000 in
theorem Ffind1_any (x : ByteArray) (y : Int) (b : ByteArray) (w : World) :
    Calls Tryz.prog 96 #[.agg #[.string x, .int .i64 y], .string b] w fun e w' => e = .returned (.int .i64 (FcmpS x b)) ∧ Below w.heap.size w w' := by
  go_enter Tryz.func96, Tryz.ntmps96
  go_wp2_with fail
  refine (FcompareS_any _ _ _).mono ?_
  rintro e w' ⟨rfl, rfl⟩
  go_wp2
  go_ret
  exact ⟨rfl, (Below.refl _ _).alloc (Nat.le_refl _) _⟩
theorem Feg_find1 : ∀ args w, (callFunc 96 args).run Tryz.prog w = .ok (.enter 96 args) w := enters_of Tryz.func96 (by kernel_rfl) rfl

def SrtE (xs : List DE) : Prop := xs.Pairwise (fun a b => ltS a.n b.n = true)

set_option maxRecDepth 100000 in
set_option maxHeartbeats 1000000 in
theorem Fbsearch_any (v : Value) (xs : List DE) (nm : ByteArray) (w : World) (h : DEs w w.heap.size v xs) (hs : SrtE xs) :
    Calls Tryz.prog 95 #[v, .string nm, .func (.func 96) #[] #[]] w fun e w' => e = .returned (.tuple #[.int .i64 (lowE xs nm : Nat), .bool (fndE xs nm)]) ∧ Below w.heap.size w w' := by
  obtain ⟨a, c, rfl, hc, hl, hf, hx⟩ := h
  have eg := Feg_find1
  have HX := Lib.hid hx
  have HS := Lib.hid hs
  have hl2 : xs.length ≤ 4611686018427387904 := by omega
  clear hx hf hs
  have FN0 : Hid (fndE xs nm = decide (lowE xs nm < xs.length ∧ (xs.getD (lowE xs nm) D0).n = nm)) := Lib.hid rfl
  generalize hp : lowE xs nm = p at *
  have HP := Lib.hid hp
  clear hp
  generalize fndE xs nm = q at *
  go_enter Tryz.func95, Tryz.ntmps95
  go_wp2
  go_loopg [9, 10] xs.length (fun gg s9 s10 wr => ∃ i j : Nat, i ≤ j ∧ j ≤ xs.length ∧ j - i ≤ gg ∧ s9 = .int .i64 i ∧ s10 = .int .i64 j ∧ Aside (Below w.heap.size w wr) ∧ Aside ((∀ k, k < i → ltS (xs.getD k D0).n nm = true) ∧ (∀ k, j ≤ k → k < xs.length → ltS (xs.getD k D0).n nm = false)))
  case atStart => exact ⟨0, xs.length, Nat.zero_le _, Nat.le_refl _, by omega, rfl, rfl, Below.refl _ w, (show _ ∧ _ from ⟨fun j hj => absurd hj (Nat.not_lt_zero _), fun k h1 h2 => absurd h1 (by omega)⟩)⟩
  case round =>
    obtain ⟨i, j, hij, hj, hg, rfl, rfl, BW, I⟩ := hrel
    by_cases hlt : i < j
    · have hm : (i + j) / 2 < xs.length := by omega
      obtain ⟨b, o, rfl, hb, hcell⟩ := HX.out (by omega)
      have g0 : wr.cell? ⟨b, o + (i + j) / 2 * 2, none⟩ = some (.string (xs.getD ((i + j) / 2) D0).n) := (BW.out.cell (p := ⟨b, _, none⟩) hb).trans (hcell _ hm).1
      have g1 : wr.cell? ⟨b, o + (i + j) / 2 * 2 + 1, none⟩ = some (.int .i64 (xs.getD ((i + j) / 2) D0).i) := (BW.out.cell (p := ⟨b, _, none⟩) hb).trans (hcell _ hm).2
      clear hcell
      generalize hy : xs.getD ((i + j) / 2) D0 = y at g0 g1
      obtain ⟨x, z⟩ := y
      have Y := Lib.hid hy
      clear hy
      have hcall := fun W => Ffind1_any x z nm W
      have hq := FcmpS_lt (a := x) (b := nm)
      generalize FcmpS x nm = q at hcall hq
      have HQ := Lib.hid hq
      clear hq
      by_cases hq0 : q < 0
      · go_wp2_with (go_at_fn 96; refine (hcall _).mono ?_; rintro e w' ⟨rfl, hb'⟩)
        go_roundg (j - ((i + j) / 2 + 1))
        case measure => omega
        case rel =>
          have hlt2 := HQ.out.1 hq0
          have I2 : Aside ((∀ k, k < (i + j) / 2 + 1 → ltS (xs.getD k D0).n nm = true) ∧ (∀ k, j ≤ k → k < xs.length → ltS (xs.getD k D0).n nm = false)) := by
            refine (show _ ∧ _ from ⟨fun k hk => ?_, I.out.2⟩)
            by_cases e : k = (i + j) / 2
            · subst e; rw [Y.out]; exact hlt2
            · refine ltS_trans (srtE_at HS.out (i := k) (j := (i + j) / 2) (by omega) hm) ?_
              rw [Y.out]; exact hlt2
          exact ⟨(i + j) / 2 + 1, j, by omega, hj, Nat.le_refl _, by rw [show ((i : Int) + (j : Int)) / 2 + 1 = (((i + j) / 2 + 1 : Nat) : Int) by omega], rfl, BW.out.trans (hb'.mono BW.out.size), I2⟩
      · go_wp2_with (go_at_fn 96; refine (hcall _).mono ?_; rintro e w' ⟨rfl, hb'⟩)
        go_roundg ((i + j) / 2 - i)
        case measure => omega
        case rel =>
          have hlt2 : ltS x nm = false := by
            cases hh : ltS x nm with
            | false => rfl
            | true => exact absurd (HQ.out.2 hh) (by omega)
          have I2 : Aside ((∀ k, k < i → ltS (xs.getD k D0).n nm = true) ∧ (∀ k, (i + j) / 2 ≤ k → k < xs.length → ltS (xs.getD k D0).n nm = false)) := by
            refine (show _ ∧ _ from ⟨I.out.1, fun k hk hkl => ?_⟩)
            by_cases e : k = (i + j) / 2
            · subst e; rw [Y.out]; exact hlt2
            · cases hh : ltS (xs.getD k D0).n nm with
              | false => rfl
              | true =>
                have := ltS_trans (srtE_at HS.out (i := (i + j) / 2) (j := k) (by omega) hkl) hh
                rw [Y.out] at this
                simp only at this
                rw [hlt2] at this; cases this
          exact ⟨i, (i + j) / 2, by omega, by omega, Nat.le_refl _, rfl, by rw [show ((i : Int) + (j : Int)) / 2 = (((i + j) / 2 : Nat) : Int) by omega], BW.out.trans (hb'.mono BW.out.size), I2⟩
    · obtain rfl : i = j := by omega
      have ecnt := lowE_of hj I.out.1 I.out.2
      rw [HP.out] at ecnt
      subst ecnt
      have FN := FN0
      clear FN0
      by_cases hn : p < xs.length
      · have hnz : (p : Int) < (xs.length : Int) := by omega
        obtain ⟨b, o, rfl, hb, hcell⟩ := HX.out (by omega)
        have g0 : wr.cell? ⟨b, o + p * 2, none⟩ = some (.string (xs.getD p D0).n) := (BW.out.cell (p := ⟨b, _, none⟩) hb).trans (hcell _ hn).1
        have g1 : wr.cell? ⟨b, o + p * 2 + 1, none⟩ = some (.int .i64 (xs.getD p D0).i) := (BW.out.cell (p := ⟨b, _, none⟩) hb).trans (hcell _ hn).2
        clear hcell
        generalize hy : xs.getD p D0 = y at g0 g1 FN
        obtain ⟨x, z⟩ := y
        clear hy
        simp only [hn, true_and] at FN
        have hcall := fun W => Ffind1_any x z nm W
        have hq := FcmpS_eq (a := x) (b := nm)
        generalize FcmpS x nm = r at hcall hq
        have HQ := Lib.hid hq
        clear hq
        by_cases hr : r = 0
        · have hr1 : (r == 0) = true := by simpa using hr
          have HR := Lib.hid (HQ.out.1 hr)
          clear hr
          go_wp2_with (go_at_fn 96; refine (hcall _).mono ?_; rintro e w' ⟨rfl, hb'⟩)
          go_ret2
          refine ⟨?_, BW.out.trans (hb'.mono BW.out.size)⟩
          rw [FN.out, decide_eq_true HR.out]
          first | rfl | simp
        · have hr1 : (r == 0) = false := by simpa using hr
          have HR := Lib.hid (fun e => hr (HQ.out.2 e))
          clear hr
          go_wp2_with (go_at_fn 96; refine (hcall _).mono ?_; rintro e w' ⟨rfl, hb'⟩)
          go_ret2
          refine ⟨?_, BW.out.trans (hb'.mono BW.out.size)⟩
          rw [FN.out, decide_eq_false HR.out]
          first | rfl | simp
      · have hnd : decide ((p : Int) < (xs.length : Int)) = false := by simp; omega
        have hpp : ¬ ((p : Int) < (p : Int)) := by omega
        have F2 : Hid (q = false) := Lib.hid (by rw [FN.out]; simp [hn])
        clear FN
        go_wp2
        go_ret2
        refine ⟨?_, BW.out⟩
        rw [F2.out]
        first | rfl | simp

theorem Ffind_any (v : Value) (xs : List DE) (nm : ByteArray) (w : World) (h : DEs w w.heap.size v xs) (hs : SrtE xs) :
    Calls Tryz.prog 49 #[v, .string nm] w fun e w' => e = .returned (.tuple #[.int .i64 (lowE xs nm : Nat), .bool (fndE xs nm)]) ∧ Below w.heap.size w w' := by
  have hc := Fbsearch_any v xs nm w h hs
  generalize lowE xs nm = p at *
  generalize fndE xs nm = q at *
  obtain ⟨a, c, rfl, _⟩ := h
  go_enter Tryz.func49, Tryz.ntmps49
  go_wp2_with fail
  refine hc.mono ?_
  rintro e w' ⟨rfl, hb⟩
  go_wp2
  go_ret2
  exact ⟨rfl, hb⟩


/-- An entry with this name is the one that is found. -/
theorem found_iff {es : List DE} (h : SrtE es) {nm : ByteArray} : (fndE es nm = true → es.getD (lowE es nm) D0 ∈ es ∧ (es.getD (lowE es nm) D0).n = nm) ∧ (fndE es nm = false → ∀ e ∈ es, e.n ≠ nm) := by
  constructor
  · intro hf
    obtain ⟨h1, h2⟩ := fndE_iff.1 hf
    exact ⟨deD_mem h1, h2⟩
  · intro hf e he hn
    obtain ⟨j, hj, rfl⟩ := List.mem_iff_getElem.1 he
    have hlow := lowE_of (xs := es) (nm := nm) (i := j) (Nat.le_of_lt hj) (fun k hk => by
      rw [← hn, ← deD hj]; exact srtE_at h hk hj) (fun k hk hkl => by
      by_cases e : k = j
      · subst e; rw [deD hj, hn]; exact ltS_irrefl _
      · have := srtE_at h (i := j) (j := k) (by omega) hkl
        rw [deD hj, hn] at this
        exact ltS_asymm this)
    have : fndE es nm = true := fndE_iff.2 (by rw [hlow]; exact ⟨hj, by rw [deD hj]; exact hn⟩)
    rw [hf] at this; cases this
theorem entry_same {es : List DE} (h : SrtE es) {a b : DE} (ha : a ∈ es) (hb : b ∈ es) (he : a.n = b.n) : a = b := by
  obtain ⟨i, hi, rfl⟩ := List.mem_iff_getElem.1 ha
  obtain ⟨j, hj, rfl⟩ := List.mem_iff_getElem.1 hb
  rcases Nat.lt_trichotomy i j with hl | hl | hl
  · exact absurd he (ltS_ne (List.pairwise_iff_getElem.1 h i j hi hj hl))
  · subst hl; rfl
  · exact absurd he.symm (ltS_ne (List.pairwise_iff_getElem.1 h j i hj hi hl))

end Go.Proofs.YtmbbmmnpkdfecaaGreatDoor

/- Leaves of package fstree: isBetween, isUsed, checkFree, checkContents, cmp.Or. Conditions: the arguments' cells lie in memory as they read. -/

set_option linter.all false
namespace Go.Proofs.YtmbbmmnpkdfecaaGreatDoor
open Go.RowKit

set_option maxHeartbeats 400000 in
theorem isBetween_any (n m : Int) (w : World) :
    Calls Tryz.prog 148 #[.int .i64 n, .int .i64 m] w fun e w' => e = .returned (.bool (decide (0 ≤ n ∧ n ≤ m))) ∧ w' = w := by
  go_enter Tryz.func148, Tryz.ntmps148
  go_wp2
  all_goals
    go_ret
    refine ⟨ret_bool ?_, rfl⟩
    first
      | (rw [decide_eq_decide]; omega)
      | (symm; rw [decide_eq_false_iff_not]; omega)
      | (rw [Bool.eq_iff_iff]; simp; omega)

theorem used_at {t : Tr} {i : Int} (h0 : 0 ≤ i) (h1 : i < t.length) : used t i = ((nod t i.toNat).k != 0) := by
  unfold used; rw [Bool.eq_iff_iff, decide_eq_true_iff, bne_iff_ne]
  exact ⟨fun h => h.2.2, fun h => ⟨h0, h1, h⟩⟩
theorem used_out {t : Tr} {i : Int} (h : ¬ (0 ≤ i ∧ i < t.length)) : used t i = false := by
  unfold used; rw [decide_eq_false_iff_not]; exact fun k => h ⟨k.1, k.2.1⟩
set_option maxHeartbeats 800000 in
theorem isUsed_any (a : Option Addr) (c : Nat) (t : Tr) (i : Int) (w : World) (h : Nods w w.heap.size a c t) :
    Calls Tryz.prog 112 #[.agg #[.slice a t.length c], .int .i64 i] w fun e w' => e = .returned (.bool (used t i)) ∧ Below w.heap.size w w' := by
  have hll := h.len
  by_cases h0 : 0 ≤ i
  · by_cases h1 : i < t.length
    · obtain ⟨b, o, ve, vd, va, vx, rfl, hb, hc, hs⟩ := h.one (j := i.toNat) (by omega)
      have g0 := hc.c0
      have HU := Lib.hid (used_at h0 h1)
      clear hc hs h
      obtain ⟨n, rfl⟩ := Int.eq_ofNat_of_zero_le h0
      simp only [Int.toNat_natCast] at g0 HU
      generalize (nod t n).k = k at *
      go_enter Tryz.func112, Tryz.ntmps112
      go_wp2
      go_ret
      exact ⟨ret_bool (by rw [HU.out]), (Below.refl _ _).alloc (Nat.le_refl _) _⟩
    · have HU := Lib.hid (used_out (t := t) (i := i) (fun k => h1 k.2))
      have hd : decide (i < (t.length : Int)) = false := by simpa using h1
      clear h
      go_enter Tryz.func112, Tryz.ntmps112
      go_wp2
      go_ret
      exact ⟨ret_bool (by rw [HU.out]), (Below.refl _ _).alloc (Nat.le_refl _) _⟩
  · have HU := Lib.hid (used_out (t := t) (i := i) (fun k => h0 k.1))
    have hd : decide (0 ≤ i) = false := by simpa using h0
    clear h
    go_enter Tryz.func112, Tryz.ntmps112
    go_wp2
    go_ret
    exact ⟨ret_bool (by rw [HU.out]), (Below.refl _ _).alloc (Nat.le_refl _) _⟩

set_option maxHeartbeats 400000 in
theorem or4_any (x0 x1 x2 x3 : Int) (n : Nat) (w : World) (hn : n < w.heap.size) (h0 : w.cell? ⟨n, 0, none⟩ = some (.int .i64 x0)) (h1 : w.cell? ⟨n, 1, none⟩ = some (.int .i64 x1)) (h2 : w.cell? ⟨n, 2, none⟩ = some (.int .i64 x2)) (h3 : w.cell? ⟨n, 3, none⟩ = some (.int .i64 x3)) :
    Calls Tryz.prog 102 #[.slice (some ⟨n, 0, none⟩) 4 4] w fun e w' => e = .returned (.int .i64 (or4 x0 x1 x2 x3)) ∧ w' = w := by
  have HX := Lib.hid (show ∀ k, k < 4 → w.cell? ⟨n, k, none⟩ = some (.int .i64 ([x0, x1, x2, x3].getD k 0)) from fun k hk => by
    match k, hk with
    | 0, _ => exact h0
    | 1, _ => exact h1
    | 2, _ => exact h2
    | 3, _ => exact h3)
  have HE := Lib.hid (show (∀ k, k < 4 → (∀ j, j < k → [x0, x1, x2, x3].getD j 0 = 0) → [x0, x1, x2, x3].getD k 0 ≠ 0 → or4 x0 x1 x2 x3 = [x0, x1, x2, x3].getD k 0) ∧ ((∀ j, j < 4 → [x0, x1, x2, x3].getD j 0 = 0) → or4 x0 x1 x2 x3 = 0) from by
    unfold or4
    refine ⟨fun k hk hA hN => ?_, fun hA => ?_⟩
    · match k, hk with
      | 0, _ => simp at hN; simp [hN]
      | 1, _ => have e0 := hA 0 (by omega); simp at hN e0; simp [hN, e0]
      | 2, _ => have e0 := hA 0 (by omega); have e1 := hA 1 (by omega); simp at hN e0 e1; simp [hN, e0, e1]
      | 3, _ => have e0 := hA 0 (by omega); have e1 := hA 1 (by omega); have e2 := hA 2 (by omega); simp at hN e0 e1 e2; simp [e0, e1, e2]
    · have e0 := hA 0 (by omega); have e1 := hA 1 (by omega); have e2 := hA 2 (by omega); have e3 := hA 3 (by omega)
      simp at e0 e1 e2 e3
      simp [e0, e1, e2, e3])
  clear h0 h1 h2 h3
  generalize or4 x0 x1 x2 x3 = r at *
  generalize [x0, x1, x2, x3] = l at *
  go_enter Tryz.func102, Tryz.ntmps102
  go_wp2
  go_loopg [5, 8] 4 (fun gg _ s8 wr => ∃ kk : Nat, kk ≤ 4 ∧ 4 - kk ≤ gg ∧ s8 = .int .i64 kk ∧ wr = w ∧ Aside (∀ j, j < kk → l.getD j 0 = 0))
  case atStart => exact ⟨0, by omega, by omega, rfl, rfl, fun j hj => absurd hj (Nat.not_lt_zero _)⟩
  case round =>
    obtain ⟨kk, hkk, hg, rfl, rfl, A⟩ := hrel
    by_cases hlt : kk < 4
    · have hltz : (kk : Int) < 4 := by omega
      have hcell := HX.out kk hlt
      generalize hy : l.getD kk 0 = y at hcell
      have Y := Lib.hid hy
      clear hy
      by_cases hy0 : y = 0
      · subst hy0
        go_wp2
        go_roundg (4 - (kk + 1))
        case measure => omega
        case rel =>
          refine ⟨kk + 1, by omega, by omega, by go_num, rfl, (show Aside _ from fun j hj => ?_)⟩
          by_cases e : j = kk
          · subst e; exact Y.out
          · exact A.out j (by omega)
      · have hy1 : (y != 0) = true := by simpa using hy0
        have HN := Lib.hid hy0
        clear hy0
        go_wp2
        go_ret
        exact ⟨ret_int (by rw [HE.out.1 kk hlt A.out (by rw [Y.out]; exact HN.out), Y.out]), rfl⟩
    · obtain rfl : kk = 4 := by omega
      go_wp2
      go_ret
      exact ⟨ret_int (HE.out.2 A.out).symm, rfl⟩

set_option maxHeartbeats 1600000 in
theorem checkFree_any (x : Nod) (ve vd va vx : Value) (w : World) (h : NodS w w.heap.size ve vd va vx x) :
    Calls Tryz.prog 101 #[.agg #[.int .i64 x.k, .int .i64 x.o, ve, vd, va, vx, .int .i64 x.q, .int .i64 x.v]] w fun e w' => e = .returned (.int .i64 (codeF x)) ∧ Below w.heap.size w w' := by
  obtain ⟨⟨ea, ec, rfl, hec, hel, _, _⟩, ⟨da, dc, rfl, hdc⟩, hdl, ⟨aa, acp, rfl, hacc, hacl, _, _⟩, ⟨xa, xc, rfl, hxc, hxl, _, _⟩, _, _, _, _⟩ := h
  have HC := Lib.hid (show codeF x = if x.es.length + x.dl + x.ac.length + x.xs.length = 0 ∧ x.o = 0 ∧ x.q = 0 ∧ x.v = 0 then 0 else 5 from rfl)
  generalize codeF x = r at *
  generalize x.es.length = n1 at *
  generalize x.dl = n2 at *
  generalize x.ac.length = n3 at *
  generalize x.xs.length = n4 at *
  obtain ⟨k, o, es, dl, ac, xs, q, v⟩ := x
  simp only at *
  by_cases hn : n1 + n2 + n3 + n4 = 0
  · obtain ⟨rfl, rfl, rfl, rfl⟩ : n1 = 0 ∧ n2 = 0 ∧ n3 = 0 ∧ n4 = 0 := by omega
    by_cases ho : o = 0
    · subst ho
      by_cases hq : q = 0
      · subst hq
        by_cases hv : v = 0
        · subst hv
          rw [if_pos (by simp)] at HC
          go_enter Tryz.func101, Tryz.ntmps101
          go_wp2
          go_ret
          exact ⟨ret_int HC.out.symm, (Below.refl _ _).alloc (Nat.le_refl _) _⟩
        · rw [if_neg (by simp [hv])] at HC
          have h1 : (v != 0) = true := by simpa using hv
          go_enter Tryz.func101, Tryz.ntmps101
          go_wp2
          go_ret
          exact ⟨ret_int HC.out.symm, (Below.refl _ _).alloc (Nat.le_refl _) _⟩
      · rw [if_neg (by simp [hq])] at HC
        have h1 : (q != 0) = true := by simpa using hq
        go_enter Tryz.func101, Tryz.ntmps101
        go_wp2
        go_ret
        exact ⟨ret_int HC.out.symm, (Below.refl _ _).alloc (Nat.le_refl _) _⟩
    · rw [if_neg (by simp [ho])] at HC
      have h1 : (o != 0) = true := by simpa using ho
      go_enter Tryz.func101, Tryz.ntmps101
      go_wp2
      go_ret
      exact ⟨ret_int HC.out.symm, (Below.refl _ _).alloc (Nat.le_refl _) _⟩
  · rw [if_neg (by omega)] at HC
    have h1 : (((n1 : Int) + (n2 : Int) + (n3 : Int) + (n4 : Int)) != 0) = true := by rw [bne_iff_ne]; omega
    go_enter Tryz.func101, Tryz.ntmps101
    go_wp2
    go_ret
    exact ⟨ret_int HC.out.symm, (Below.refl _ _).alloc (Nat.le_refl _) _⟩

end Go.Proofs.YtmbbmmnpkdfecaaGreatDoor

/- What an argument of type api.Tree reads as: a list of inodes. No condition: every such tree that a machine can hold. -/

set_option linter.all false
namespace Go.Proofs.YtmbbmmnpkdfecaaGreatDoor
open Go.ChangeShapes Go.WideShapes Go.ChangeAt Go.RowKit Go.Deep

section
variable {H : Type} {P : Program}
theorem weights_all {e : TypeId} : ∀ {l : List (DataW H)} {d : DataW H}, d ∈ l → ∀ n ∈ d.weights P e, n ∈ DataW.weightsAll P e l
  | [], _, hd, _, _ => absurd hd (by simp)
  | d0 :: l, d, hd, n, hn => by
    simp only [DataW.weightsAll, List.mem_append]
    rcases List.mem_cons.1 hd with rfl | hd
    · exact .inl hn
    · exact .inr (weights_all hd n hn)
/-- All that is read is as large as a machine can hold. -/
def Held (P : Program) (t : TypeId) (d : DataW H) : Prop := ∀ n ∈ d.weights P t, n ≤ reachBytes
theorem Held.slice {t e : TypeId} {elems spare : List (DataW H)} (hu : P.underlying t = some (.slice e)) (h : Held P t (.slice elems spare)) : (elems.length + spare.length) * P.bytesOf e ≤ reachBytes :=
  h _ (by simp [DataW.weights, hu])
theorem Held.elem {t e : TypeId} {elems spare : List (DataW H)} (hu : P.underlying t = some (.slice e)) (h : Held P t (.slice elems spare)) {d : DataW H} (hd : d ∈ elems) : Held P e d := fun n hn => h n (by
  simp only [DataW.weights, hu, List.mem_cons, List.mem_append]
  exact .inr (.inl (weights_all hd n hn)))
theorem Held.field {t : TypeId} {fs : Array Field} {parts : List (DataW H)} (hu : P.underlying t = some (.struct fs)) (h : Held P t (.agg parts)) {j : Nat} {f : Field} {d : DataW H} (hf : fs[j]? = some f) (hd : parts[j]? = some d) : Held P f.type d := fun n hn => h n (by
  simp only [DataW.weights, hu]
  exact DataW.weights_mem_each (j := j) (by simp [List.getElem?_map, Array.getElem?_toList, hf]) hd n hn)
theorem field_of {fs : Array Field} {l : Array (TypeId × Nat)} (h : fs.map (fun f => (f.type, f.offset)) = l) {j o : Nat} {t : TypeId} (hj : l[j]? = some (t, o)) : ∃ f, fs[j]? = some f ∧ f.type = t ∧ f.offset = o := by
  subst h
  rw [Array.getElem?_map] at hj
  cases h1 : fs[j]? with
  | none => rw [h1] at hj; cases hj
  | some f =>
    rw [h1] at hj
    injection hj with hj
    injection hj with h2 h3
    exact ⟨f, rfl, h2, h3⟩
variable {enc : TypeId × Value → H} {w : World} {base : Nat} {spare : Nat → Bool} {held : Bool}
theorem trod_field {t tj : TypeId} {fs : Array Field} {l : Array (TypeId × Nat)} {m j oj : Nat} {cs : List Value} {x : DataW H × List MemPlace} (hu : P.underlying t = some (.struct fs)) (hl : fs.map (fun f => (f.type, f.offset)) = l)
    (h : DataW.trod enc P w base spare held m t cs = some x) (hj : l[j]? = some (tj, oj)) :
    ∃ n y, DataW.trod enc P w base spare held n tj ((cs.drop oj).take (P.cellsOf tj)) = some y ∧ (Held P t x.1 → Held P tj y.1) := by
  obtain ⟨xs, n', _, hx, hlen, hxl, hf⟩ := DataW.trod_struct hu h
  obtain ⟨f, h1, h2, h3⟩ := field_of hl hj
  have h4 := hf j f h1
  rw [h2, h3] at h4
  have hjx : j < xs.length := by
    rw [hxl]
    exact (Array.getElem?_eq_some_iff.1 h1).1
  rw [List.getElem?_eq_getElem hjx] at h4
  refine ⟨n', _, h4, fun hh => ?_⟩
  rw [hx] at hh
  have := hh.field hu h1 (d := xs[j].1) (by rw [List.getElem?_map, List.getElem?_eq_getElem hjx]; rfl)
  rwa [h2] at this
theorem trod_slice_form {t e : TypeId} {m : Nat} {v : Value} {x : DataW H × List MemPlace} (hu : P.underlying t = some (.slice e)) (h : DataW.trod enc P w base spare held m t [v] = some x) : ∃ a n c, v = .slice a n c := by
  rcases open_slice hu h with ⟨hcs, _⟩ | ⟨ad, len, cap, _, _, _, _, hcs, _⟩
  · injection hcs with hcs; exact ⟨_, _, _, hcs⟩
  · injection hcs with hcs; exact ⟨_, _, _, hcs⟩
end

theorem de_under : Tryz.prog.underlying 93 = some (.struct (Tryz.prog.fieldsOf 93)) := by kernel_rfl
theorem de_fields : (Tryz.prog.fieldsOf 93).map (fun f => (f.type, f.offset)) = #[(9, 0), (3, 1)] := by kernel_rfl
theorem de_cells : Tryz.prog.cellsOf 93 = 2 := by kernel_rfl
theorem de_bytes : Tryz.prog.bytesOf 93 = 24 := by kernel_rfl
theorem nod_under : Tryz.prog.underlying 63 = some (.struct (Tryz.prog.fieldsOf 63)) := by kernel_rfl
theorem nod_fields : (Tryz.prog.fieldsOf 63).map (fun f => (f.type, f.offset)) = #[(3, 0), (3, 1), (60, 2), (25, 3), (26, 4), (61, 5), (3, 6), (3, 7)] := by kernel_rfl
theorem nod_cells : Tryz.prog.cellsOf 63 = 8 := by kernel_rfl
theorem nod_bytes : Tryz.prog.bytesOf 63 = 128 := by kernel_rfl
theorem u8_bytes : Tryz.prog.bytesOf 5 = 1 := by kernel_rfl
theorem tree_under : Tryz.prog.underlying 24 = some (.struct (Tryz.prog.fieldsOf 24)) := by kernel_rfl
theorem tree_fields : (Tryz.prog.fieldsOf 24).map (fun f => (f.type, f.offset)) = #[(22, 0)] := by kernel_rfl
theorem tree_cells : Tryz.prog.cellsOf 24 = 1 := by kernel_rfl
theorem sl_cells0 : Tryz.prog.cellsOf 22 = 1 := by kernel_rfl
theorem sl_cells1 : Tryz.prog.cellsOf 60 = 1 := by kernel_rfl
theorem sl_cells2 : Tryz.prog.cellsOf 25 = 1 := by kernel_rfl
theorem sl_cells3 : Tryz.prog.cellsOf 26 = 1 := by kernel_rfl
theorem sl_cells4 : Tryz.prog.cellsOf 61 = 1 := by kernel_rfl
theorem one_of {α : Type} {cs : List α} (h : cs.length = 1) : ∃ c0, cs = [c0] := by
  match cs, h with
  | [c0], _ => exact ⟨c0, rfl⟩
theorem eight_of {α : Type} {cs : List α} (h : cs.length = 8) : ∃ c0 c1 c2 c3 c4 c5 c6 c7, cs = [c0, c1, c2, c3, c4, c5, c6, c7] := by
  match cs, h with
  | [c0, c1, c2, c3, c4, c5, c6, c7], _ => exact ⟨c0, c1, c2, c3, c4, c5, c6, c7, rfl⟩
instance nodInhabited : Inhabited Nod := ⟨N0⟩
theorem reach_num : reachBytes = 140737488351232 := by decide

section
variable {H : Type} {enc : TypeId × Value → H} {W : World}
/-- Two cells that read as an entry are a string and an integer. -/
theorem de_of {n : Nat} {cs : List Value} {y : DataW H × List MemPlace}
    (h : DataW.trod enc Tryz.prog W 0 (fun _ => true) true n 93 cs = some y) : ∃ (x : ByteArray) (i : Int), cs = [.string x, .int .i64 i] ∧ x.size ≤ maxLen ∧ i64 i := by
  obtain ⟨xs, n', _, _, hlen, _, _⟩ := DataW.trod_struct de_under h
  rw [de_cells] at hlen
  obtain ⟨c0, c1, rfl⟩ := two_of hlen
  obtain ⟨_, _, g0, _⟩ := trod_field de_under de_fields h (j := 0) (tj := 9) (oj := 0) rfl
  obtain ⟨_, _, g1, _⟩ := trod_field de_under de_fields h (j := 1) (tj := 3) (oj := 1) rfl
  rw [str_cells] at g0
  rw [int_cells] at g1
  obtain ⟨s, h0, _, f0⟩ := DataW.trod_string Tryz.underlying9 g0
  obtain ⟨i, h1, _, f1⟩ := DataW.trod_int Tryz.underlying3 g1
  simp at h0 h1
  exact ⟨s, i, by rw [h0, h1], f0, wf_int f1⟩

set_option maxRecDepth 100000 in
theorem des_of {fuel : Nat} {a : Option Addr} {len cap : Nat} {x : DataW H × List MemPlace}
    (hf : DataW.trod enc Tryz.prog W 0 (fun _ => true) true fuel 60 [.slice a len cap] = some x) (hw : Held Tryz.prog 60 x.1) : ∃ es, DEs W W.heap.size (.slice a len cap) es := by
  rcases open_slice Tryz.underlying60 hf with ⟨hcs, hx⟩ | ⟨ad, len', cap', m, n, D, Pl, hcs, _, hl, hm, hmm, hx, hi⟩
  · simp at hcs
    obtain ⟨rfl, rfl, rfl⟩ := hcs
    exact ⟨[], DEs.none_ _ _⟩
  · simp at hcs
    obtain ⟨rfl, rfl, rfl⟩ := hcs
    simp only [if_true] at hmm
    rw [hx] at hw
    have hr := hw.slice Tryz.underlying60
    rw [de_bytes, reach_num] at hr
    simp only [List.length_map, List.length_range] at hr
    have key : ∀ i, i < len → ∃ (x : ByteArray) (k : Int), W.cell? (ad.add (i * 2)) = some (.string x) ∧ W.cell? (ad.add (i * 2 + 1)) = some (.int .i64 k) ∧ x.size ≤ maxLen ∧ i64 k := by
      intro i hil
      obtain ⟨cs, hc, ht⟩ := hi i (by omega)
      rw [de_cells] at hc
      obtain ⟨x, k, rfl, fx, fk⟩ := de_of ht
      obtain ⟨_, _, hat⟩ := World.cells?_some hc
      have h0 := hat 0 (by omega)
      have h1 := hat 1 (by omega)
      rw [Go.Deep.add_add] at h0 h1
      exact ⟨x, k, h0, h1, fx, fk⟩
    refine ⟨(List.range len).map (fun i => ⟨strOf ((W.cell? (ad.add (i * 2))).getD undef), intOf ((W.cell? (ad.add (i * 2 + 1))).getD undef)⟩), ⟨some ad, cap, by simp, by simp; omega, by simp; omega, ?_, ?_⟩⟩
    · intro e he
      obtain ⟨i, hil, rfl⟩ := List.mem_map.1 he
      obtain ⟨n0, n1, h0, h1, f0, f1⟩ := key i (List.mem_range.1 hil)
      rw [h0, h1]
      exact ⟨f0, f1⟩
    · intro hp0
      have hp : 0 < len := by simpa using hp0
      clear hp0
      obtain ⟨b, off, spot⟩ := ad
      obtain ⟨n0, _, hc0, _⟩ := key 0 hp
      have hspot : spot = none := by simpa [Addr.add] using World.cell?_spot hc0
      subst hspot
      have hlt : b < W.heap.size := by have := cell_lt hc0; simpa [Addr.add] using this
      refine ⟨b, off, rfl, hlt, fun j hj => ?_⟩
      have hj : j < len := by simpa using hj
      have hg : ∀ g : Nat → DE, ((List.range len).map g).getD j D0 = g j := fun g => by
        rw [List.getD_eq_getElem?_getD, List.getElem?_eq_getElem (by simpa using hj)]; simp
      rw [hg]
      obtain ⟨n0, n1, h0, h1, _, _⟩ := key j hj
      rw [h0, h1]
      rw [add_plain] at h0 h1
      exact ⟨h0, h1⟩

set_option maxRecDepth 100000 in
/-- Eight cells that read as an inode. -/
theorem nod_of {n : Nat} {cs : List Value} {y : DataW H × List MemPlace}
    (h : DataW.trod enc Tryz.prog W 0 (fun _ => true) true n 63 cs = some y) (hw : Held Tryz.prog 63 y.1) :
    ∃ ve vd va vx x, cs = [.int .i64 x.k, .int .i64 x.o, ve, vd, va, vx, .int .i64 x.q, .int .i64 x.v] ∧ NodS W W.heap.size ve vd va vx x := by
  obtain ⟨xs, n', _, _, hlen, _, _⟩ := DataW.trod_struct nod_under h
  rw [nod_cells] at hlen
  obtain ⟨c0, c1, c2, c3, c4, c5, c6, c7, rfl⟩ := eight_of hlen
  obtain ⟨_, _, g0, _⟩ := trod_field nod_under nod_fields h (j := 0) (tj := 3) (oj := 0) rfl
  obtain ⟨_, _, g1, _⟩ := trod_field nod_under nod_fields h (j := 1) (tj := 3) (oj := 1) rfl
  obtain ⟨_, y2, g2, w2⟩ := trod_field nod_under nod_fields h (j := 2) (tj := 60) (oj := 2) rfl
  obtain ⟨_, y3, g3, w3⟩ := trod_field nod_under nod_fields h (j := 3) (tj := 25) (oj := 3) rfl
  obtain ⟨_, y4, g4, w4⟩ := trod_field nod_under nod_fields h (j := 4) (tj := 26) (oj := 4) rfl
  obtain ⟨_, y5, g5, w5⟩ := trod_field nod_under nod_fields h (j := 5) (tj := 61) (oj := 5) rfl
  obtain ⟨_, _, g6, _⟩ := trod_field nod_under nod_fields h (j := 6) (tj := 3) (oj := 6) rfl
  obtain ⟨_, _, g7, _⟩ := trod_field nod_under nod_fields h (j := 7) (tj := 3) (oj := 7) rfl
  rw [int_cells] at g0 g1 g6 g7
  rw [sl_cells1] at g2
  rw [sl_cells2] at g3
  rw [sl_cells3] at g4
  rw [sl_cells4] at g5
  replace w2 := w2 hw
  replace w3 := w3 hw
  replace w4 := w4 hw
  replace w5 := w5 hw
  obtain ⟨k, h0, _, f0⟩ := DataW.trod_int Tryz.underlying3 g0
  obtain ⟨o, h1, _, f1⟩ := DataW.trod_int Tryz.underlying3 g1
  obtain ⟨q, h6, _, f6⟩ := DataW.trod_int Tryz.underlying3 g6
  obtain ⟨v, h7, _, f7⟩ := DataW.trod_int Tryz.underlying3 g7
  simp only [List.drop_succ_cons, List.drop_zero, List.take_succ_cons, List.take_zero] at h0 h1 h6 h7 g2 g3 g4 g5
  injection h0 with h0
  injection h1 with h1
  injection h6 with h6
  injection h7 with h7
  subst h0 h1 h6 h7
  obtain ⟨a2, l2, p2, rfl⟩ := trod_slice_form Tryz.underlying60 g2
  obtain ⟨a3, l3, p3, rfl⟩ := trod_slice_form Tryz.underlying25 g3
  obtain ⟨a4, l4, p4, rfl⟩ := trod_slice_form Tryz.underlying26 g4
  obtain ⟨a5, l5, p5, rfl⟩ := trod_slice_form Tryz.underlying61 g5
  obtain ⟨es, hE⟩ := des_of g2 w2
  obtain ⟨ac, hA, _⟩ := acls_of g4 (fun elems spare he => by
    rw [he] at w4
    have := w4.slice Tryz.underlying26
    rwa [ent_bytes, reach_num] at this)
  obtain ⟨ax, hX, _⟩ := ats_of g5 (fun elems spare he => by
    rw [he] at w5
    have := w5.slice Tryz.underlying61
    rwa [attr_bytes, reach_num] at this)
  have hD : l3 ≤ p3 ∧ l3 ≤ 140737488355328 := by
    rcases open_slice Tryz.underlying25 g3 with ⟨hcs, hx⟩ | ⟨ad, len', cap', m, n, D, Pl, hcs, _, hl, hm, hmm, hx, hi⟩
    · simp at hcs
      obtain ⟨rfl, rfl, rfl⟩ := hcs
      simp
    · simp at hcs
      obtain ⟨rfl, rfl, rfl⟩ := hcs
      rw [hx] at w3
      have hr := w3.slice Tryz.underlying25
      rw [u8_bytes, reach_num] at hr
      simp only [List.length_map, List.length_range] at hr
      omega
  exact ⟨_, _, _, _, ⟨k, o, es, l3, ac, ax, q, v⟩, rfl, ⟨hE, ⟨a3, p3, rfl, hD.1⟩, hD.2, hA, hX, wf_int f0, wf_int f1, wf_int f6, wf_int f7⟩⟩

set_option maxRecDepth 100000 in
/-- One cell that reads as a tree. -/
theorem tree_of {n : Nat} {cs : List Value} {y : DataW H × List MemPlace}
    (h : DataW.trod enc Tryz.prog W 0 (fun _ => true) true n 24 cs = some y) (hw : Held Tryz.prog 24 y.1) :
    ∃ (a : Option Addr) (c : Nat) (t : Tr), cs = [.slice a t.length c] ∧ Nods W W.heap.size a c t := by
  obtain ⟨xs, n', _, _, hlen, _, _⟩ := DataW.trod_struct tree_under h
  rw [tree_cells] at hlen
  obtain ⟨c0, rfl⟩ := one_of hlen
  obtain ⟨_, y0, g0, w0⟩ := trod_field tree_under tree_fields h (j := 0) (tj := 22) (oj := 0) rfl
  rw [sl_cells0] at g0
  simp only [List.drop_zero, List.take_succ_cons, List.take_zero] at g0
  replace w0 := w0 hw
  rcases open_slice Tryz.underlying22 g0 with ⟨hcs, hx⟩ | ⟨ad, len, cap, m, n, D, Pl, hcs, _, hl, hm, hmm, hx, hi⟩
  · exact ⟨none, 0, [], by simpa using hcs, ⟨by simp, by simp, fun h => absurd h (by simp)⟩⟩
  · rw [hcs]
    simp only [if_true] at hmm
    rw [hx] at w0
    have hr := w0.slice Tryz.underlying22
    rw [nod_bytes, reach_num] at hr
    simp only [List.length_map, List.length_range] at hr
    have key : ∀ i, i < len → ∃ x : Nod, ∃ ve vd va vx, (∃ cs', W.cells? 0 (ad.add (i * 8)) 8 = some cs' ∧ cs' = [.int .i64 x.k, .int .i64 x.o, ve, vd, va, vx, .int .i64 x.q, .int .i64 x.v]) ∧ NodS W W.heap.size ve vd va vx x := by
      intro i hil
      obtain ⟨cs', hc, ht⟩ := hi i (by omega)
      rw [nod_cells] at hc
      obtain ⟨ve, vd, va, vx, x, h1, h2⟩ := nod_of ht (w0.elem Tryz.underlying22 (List.mem_map.2 ⟨i, List.mem_range.2 hil, rfl⟩))
      exact ⟨x, ve, vd, va, vx, ⟨cs', hc, h1⟩, h2⟩
    obtain ⟨X, hX⟩ := choose_lt (α := Nod) (p := fun i x => ∃ ve vd va vx, (∃ cs', W.cells? 0 (ad.add (i * 8)) 8 = some cs' ∧ cs' = [.int .i64 x.k, .int .i64 x.o, ve, vd, va, vx, .int .i64 x.q, .int .i64 x.v]) ∧ NodS W W.heap.size ve vd va vx x) key
    refine ⟨some ad, cap, (List.range len).map X, by simp, ⟨by simp; omega, by simp; omega, fun hp0 => ?_⟩⟩
    have hp : 0 < len := by simpa using hp0
    clear hp0
    obtain ⟨b, off, spot⟩ := ad
    obtain ⟨_, _, _, _, ⟨cs', hc, rfl⟩, _⟩ := hX 0 hp
    obtain ⟨_, _, hat⟩ := World.cells?_some hc
    have hc0 := hat 0 (by omega)
    have hspot : spot = none := by simpa [Addr.add] using World.cell?_spot hc0
    subst hspot
    have hlt : b < W.heap.size := by have := cell_lt hc0; simpa [Addr.add] using this
    clear hc hat hc0
    refine ⟨b, off, rfl, hlt, fun j hj => ?_⟩
    have hj : j < len := by simpa using hj
    have hg : nod ((List.range len).map X) j = X j := by
      unfold nod
      rw [List.getD_eq_getElem?_getD, List.getElem?_eq_getElem (by simpa using hj)]; simp
    rw [hg]
    obtain ⟨ve, vd, va, vx, ⟨cs', hc, rfl⟩, hS⟩ := hX j hj
    obtain ⟨_, _, hat⟩ := World.cells?_some hc
    refine ⟨ve, vd, va, vx, ?_, hS⟩
    have h0 := hat 0 (by omega)
    have h1 := hat 1 (by omega)
    have h2 := hat 2 (by omega)
    have h3 := hat 3 (by omega)
    have h4 := hat 4 (by omega)
    have h5 := hat 5 (by omega)
    have h6 := hat 6 (by omega)
    have h7 := hat 7 (by omega)
    rw [Go.Deep.add_add, add_plain] at h0 h1 h2 h3 h4 h5 h6 h7
    exact ⟨h0, h1, h2, h3, h4, h5, h6, h7⟩
end

end Go.Proofs.YtmbbmmnpkdfecaaGreatDoor

/- A block that holds a list of values: kept over new blocks, over stores elsewhere, changed by a store. Conditions: as each theorem states. -/

set_option linter.all false
namespace Go.Proofs.YtmbbmmnpkdfecaaGreatDoor
open Go.RowKit

/-- Block n begins with these values, and none of them is frozen. -/
structure Blk (w : World) (n : Nat) (l : List Value) : Prop where
  lt : n < w.heap.size
  c : ∀ j v, l[j]? = some v → w.cell? ⟨n, j, none⟩ = some v
  f : ∀ j, j < l.length → w.frozen? ⟨n, j, none⟩ = false
theorem Blk.new (w : World) (l : List Value) (t : TypeId) : Blk (w.alloc (.cells l.toArray t)) w.heap.size l :=
  ⟨by simp, fun j v h => by simpa using h, fun j _ => by simp⟩
theorem Blk.at_ {w : World} {n n' : Nat} {l : List Value} (h : Blk w n l) (e : n = n') : Blk w n' l := e ▸ h
theorem Blk.of_block {w w' : World} {n : Nat} {l : List Value} (h : Blk w n l) (hb : w'.heap[n]? = w.heap[n]?) : Blk w' n l := by
  have hlt : n < w'.heap.size := by
    rcases Nat.lt_or_ge n w'.heap.size with hlt | hge
    · exact hlt
    · rw [Array.getElem?_eq_none hge, Array.getElem?_eq_getElem h.lt] at hb; cases hb
  exact ⟨hlt, fun j v hj => (World.cell?_of_block (a := ⟨n, j, none⟩) hb).trans (h.c j v hj), fun j hj => (World.frozen?_of_block (a := ⟨n, j, none⟩) hb).trans (h.f j hj)⟩
theorem Blk.below {w w' : World} {B n : Nat} {l : List Value} (h : Blk w n l) (hb : Below B w w') (hn : n < B) : Blk w' n l := h.of_block (hb.block n hn)
theorem Blk.up {w w' : World} {n : Nat} {l : List Value} (h : Blk w n l) (hb : Below w.heap.size w w') : Blk w' n l := h.below hb h.lt
theorem Blk.alloc {w : World} {n : Nat} {l : List Value} (h : Blk w n l) (o : Obj) : Blk (w.alloc o) n l := h.up ((Below.refl w.heap.size w).alloc (Nat.le_refl _) o)
theorem Blk.drewN {w : World} {n : Nat} {l : List Value} (h : Blk w n l) (k : Nat) : Blk (w.drewN k) n l := ⟨h.lt, h.c, h.f⟩
theorem Blk.kept {S : Nat → Prop} {row : Option Nat} {a b : World} {n : Nat} {l : List Value} (h : Blk a n l) (k : Kept S row a b) (hS : ¬ S n) (hr : some n ≠ row) : Blk b n l :=
  h.of_block (k.block n h.lt hS hr)
theorem Blk.far {w : World} {n : Nat} {l : List Value} (h : Blk w n l) {p : Addr} (hp : n ≠ p.block) (u : Value) : Blk (w.setCell p u) n l :=
  ⟨by simpa using h.lt, fun j v hj => (World.cell?_setCell_other w p _ u (fun e => hp (by rw [e]))).trans (h.c j v hj), fun j hj => by simpa using h.f j hj⟩
theorem Blk.put {w : World} {n : Nat} {l : List Value} (h : Blk w n l) (j : Nat) (u : Value) (hj : j < l.length) : Blk (w.setCell ⟨n, j, none⟩ u) n (l.set j u) := by
  refine ⟨by simpa using h.lt, fun i v hi => ?_, fun i hi => by simpa using h.f i (by simpa using hi)⟩
  rw [List.getElem?_set] at hi
  by_cases e : j = i
  · subst e
    rw [if_pos rfl, if_pos hj] at hi
    injection hi with hi
    subst hi
    exact World.cell?_setCell_same w ⟨n, j, none⟩ u (h.c j _ (List.getElem?_eq_getElem hj))
  · rw [if_neg e] at hi
    exact (World.cell?_setCell_other w ⟨n, j, none⟩ _ u (fun he => e (by cases he; rfl))).trans (h.c i v hi)

end Go.Proofs.YtmbbmmnpkdfecaaGreatDoor
