/- Plain facts on file system trees: the walk in depth-first order, reached paths, references, the fault of a tree. No program. -/
import Derived.Test.YtndhhofidkaomaaAttrPlain
import Derived.Test.YtndhhofidkaomaaAclSlice
import Derived.Test.YtndhhofidkaomaaPathJoin

set_option linter.all false
namespace Go.Proofs.Ytndhhofidkaomaa
open Go.RowKit

/-- An entry of a directory. -/
structure DE where
  n : ByteArray
  i : Int
abbrev D0 : DE := ⟨ByteArray.empty, 0⟩
/-- An inode; of its data only the length is read. -/
structure Nod where
  k : Int
  o : Int
  es : List DE
  dl : Nat
  ac : List Ent
  xs : List Attr
  q : Int
  v : Int
abbrev N0 : Nod := ⟨0, 0, [], 0, [], [], 0, 0⟩
abbrev Tr := List Nod
def nod (t : Tr) (n : Nat) : Nod := t.getD n N0
theorem nod_at {t : Tr} {n : Nat} (h : n < t.length) : nod t n = t[n] := by
  unfold nod; rw [List.getD_eq_getElem?_getD, List.getElem?_eq_getElem h]; rfl
theorem nod_past {t : Tr} {n : Nat} (h : t.length ≤ n) : nod t n = N0 := by
  unfold nod; rw [List.getD_eq_getElem?_getD, List.getElem?_eq_none h]; rfl
def kids (t : Tr) (n : Nat) : List DE := (nod t n).es
def used (t : Tr) (i : Int) : Bool := decide (0 ≤ i ∧ i < t.length ∧ (nod t i.toNat).k ≠ 0)

/-! ## Codes of an inode -/
def codeD (t : Tr) (p : ByteArray) (e : DE) : Int :=
  if vname e.n = false then 12 else if ltS p e.n = false then 5 else if e.i = 0 ∨ used t e.i = false then 3 else 0
def codeDs (t : Tr) : ByteArray → List DE → Int
  | _, [] => 0
  | p, e :: r => if codeD t p e = 0 then codeDs t e.n r else codeD t p e
def codeEs (t : Tr) (es : List DE) : Int := if 16 < es.length then 2 else codeDs t ByteArray.empty es
def codeC (x : Nod) : Int :=
  if ¬ (0 ≤ x.o ∧ x.o ≤ 7) ∨ ¬ (0 ≤ x.v ∧ x.v ≤ 1000000) ∨ ¬ (0 ≤ x.q ∧ x.q ≤ 100000) then 3
  else if (x.k = 1 ∧ 0 < x.dl) ∨ (x.k ≠ 1 ∧ (0 < x.es.length ∨ x.q ≠ 0)) then 5
  else if 200 < x.dl then 10 else 0
def codeF (x : Nod) : Int :=
  if x.es.length + x.dl + x.ac.length + x.xs.length = 0 ∧ x.o = 0 ∧ x.q = 0 ∧ x.v = 0 then 0 else 5
def or4 (a b c d : Int) : Int := if a ≠ 0 then a else if b ≠ 0 then b else if c ≠ 0 then c else d
def codeN (t : Tr) (x : Nod) : Int :=
  if x.k = 0 then codeF x
  else if x.k = 1 ∨ x.k = 2 then or4 (codeC x) (valF x.ac).1 (valA x.xs).1 (codeEs t x.es)
  else 4
theorem or4_zero {a b c d : Int} (h : or4 a b c d = 0) : a = 0 ∧ b = 0 ∧ c = 0 ∧ d = 0 := by
  unfold or4 at h
  split at h
  · rename_i h1; exact absurd h h1
  · split at h
    · rename_i h1; exact absurd h h1
    · split at h
      · rename_i h1; exact absurd h h1
      · rename_i h1 h2 h3
        simp at h1 h2 h3
        exact ⟨h1, h2, h3, h⟩

/-- How many entries refer to an inode. -/
def refs (t : Tr) (n : Nat) : Nat := (t.flatMap (·.es)).countP (fun e => decide (e.i = (n : Int)))
def codeLk (t : Tr) (n : Nat) : Int :=
  if ((nod t n).k = 1 ∧ n ≠ 0 ∧ refs t n ≠ 1) ∨ ((nod t n).k = 2 ∧ refs t n = 0) then 11 else 0

/-! ## Walks -/
abbrev Vis := List ByteArray × Nat
/-- The walk in depth-first order, so deep at the most. -/
def dfs (t : Tr) : Nat → List ByteArray → Nat → List Vis
  | 0, _, _ => []
  | d + 1, xs, n => (xs, n) :: (kids t n).flatMap fun e => dfs t d (xs ++ [e.n]) e.i.toNat
/-- The path zs leads from inode s to inode m. -/
inductive Rch (t : Tr) (s : Nat) : List ByteArray → Nat → Prop
  | nil : Rch t s [] s
  | snoc {xs : List ByteArray} {p : Nat} {e : DE} : Rch t s xs p → e ∈ kids t p → Rch t s (xs ++ [e.n]) e.i.toNat
/-- All walks from s end. -/
def Fin (t : Tr) (s : Nat) : Prop := ∀ xs m, Rch t s xs m → xs.length ≤ t.length
/-- What is left of the walk at a place. -/
def sub (t : Tr) (xs : List ByteArray) (n : Nat) : List Vis := dfs t (t.length + 1 - xs.length) xs n
def visits (t : Tr) (s : Nat) : List Vis := sub t [] s
theorem sub_eq {t : Tr} {s : Nat} (h : Fin t s) {xs : List ByteArray} {n : Nat} (hr : Rch t s xs n) :
    sub t xs n = (xs, n) :: (kids t n).flatMap fun e => sub t (xs ++ [e.n]) e.i.toNat := by
  have hl := h _ _ hr
  have e1 : t.length + 1 - xs.length = t.length - xs.length + 1 := by omega
  have e2 : ∀ a : ByteArray, t.length + 1 - (xs ++ [a]).length = t.length - xs.length := by intro a; simp
  unfold sub
  simp only [e2]
  rw [e1]
  rfl
/-- What holds behind the entries that are still to be walked, all of it. -/
theorem sub_ind {t : Tr} {s : Nat} (h : Fin t s) (P : List ByteArray → Nat → Prop)
    (step : ∀ xs n, Rch t s xs n → (∀ e ∈ kids t n, P (xs ++ [e.n]) e.i.toNat) → P xs n) : ∀ xs n, Rch t s xs n → P xs n := by
  have key : ∀ d xs n, Rch t s xs n → t.length + 1 - xs.length = d → P xs n := by
    intro d
    induction d with
    | zero => intro xs n hr hd; have := h _ _ hr; omega
    | succ d ih =>
      intro xs n hr hd
      refine step xs n hr fun e he => ih _ _ (.snoc hr he) ?_
      simp; omega
  exact fun xs n hr => key _ xs n hr rfl
theorem Rch.trans {t : Tr} {s m n : Nat} {xs ys : List ByteArray} (h : Rch t s xs m) (k : Rch t m ys n) : Rch t s (xs ++ ys) n := by
  induction k with
  | nil => simpa using h
  | snoc _ he ih => rw [← List.append_assoc]; exact .snoc ih he
theorem mem_sub {t : Tr} {s : Nat} (h : Fin t s) : ∀ xs n, Rch t s xs n → ∀ ys m, (ys, m) ∈ sub t xs n ↔ ∃ zs, ys = xs ++ zs ∧ Rch t n zs m := by
  refine sub_ind h _ fun xs n hr ih => ?_
  intro ys m
  rw [sub_eq h hr, List.mem_cons, List.mem_flatMap]
  constructor
  · rintro (e | ⟨e, he, hm⟩)
    · injection e with e1 e2
      subst e1 e2
      exact ⟨[], by simp, .nil⟩
    · obtain ⟨zs, rfl, hz⟩ := (ih e he ys m).1 hm
      refine ⟨e.n :: zs, by simp, ?_⟩
      have := Rch.trans (Rch.snoc (Rch.nil (t := t) (s := n)) he) hz
      simpa using this
  · rintro ⟨zs, rfl, hz⟩
    have key : ∀ zs m, Rch t n zs m → (zs = [] ∧ m = n) ∨ ∃ e ∈ kids t n, ∃ us, zs = e.n :: us ∧ Rch t e.i.toNat us m := by
      intro zs m hz
      induction hz with
      | nil => exact .inl ⟨rfl, rfl⟩
      | snoc hz he ih =>
        rcases ih with ⟨rfl, rfl⟩ | ⟨e', he', us, rfl, hus⟩
        · exact .inr ⟨_, he, [], by simp, .nil⟩
        · exact .inr ⟨e', he', _, by simp, .snoc hus he⟩
    rcases key zs m hz with ⟨rfl, rfl⟩ | ⟨e, he, us, rfl, hus⟩
    · exact .inl (by simp)
    · exact .inr ⟨e, he, (ih e he _ _).2 ⟨us, by simp, hus⟩⟩
theorem mem_visits {t : Tr} {s : Nat} (h : Fin t s) {ys : List ByteArray} {m : Nat} : (ys, m) ∈ visits t s ↔ Rch t s ys m := by
  unfold visits
  rw [mem_sub h [] s .nil]
  constructor
  · rintro ⟨zs, rfl, hz⟩; simpa using hz
  · intro hz; exact ⟨ys, by simp, hz⟩

/-- The children of a visit. -/
def next (t : Tr) (r : Vis) : List Vis := (kids t r.2).map fun e => (r.1 ++ [e.n], e.i.toNat)
/-- A list of visits in breadth-first order, with i of them looked at. -/
structure Bfs (t : Tr) (s : Nat) (row : List Vis) (i : Nat) : Prop where
  le : i ≤ row.length
  rch : ∀ r ∈ row, Rch t s r.1 r.2
  perm : (visits t s).Perm (row.take i ++ (row.drop i).flatMap fun r => sub t r.1 r.2)
theorem Bfs.start {t : Tr} {s : Nat} : Bfs t s [([], s)] 0 :=
  ⟨by simp, by simp; exact .nil, by unfold visits; simp⟩
theorem Bfs.step {t : Tr} {s : Nat} (h : Fin t s) {row : List Vis} {i : Nat} (b : Bfs t s row i) (hi : i < row.length) : Bfs t s (row ++ next t row[i]) (i + 1) := by
  have hr := b.rch _ (List.getElem_mem hi)
  refine ⟨by simp; omega, ?_, ?_⟩
  · intro r hm
    rcases List.mem_append.1 hm with hm | hm
    · exact b.rch r hm
    · obtain ⟨e, he, rfl⟩ := List.mem_map.1 hm
      exact .snoc hr he
  · refine b.perm.trans ?_
    rw [List.take_append_of_le_length (by omega), List.drop_append_of_le_length (by omega), List.take_succ_eq_append_getElem hi, List.drop_eq_getElem_cons hi]
    rw [List.flatMap_cons, List.flatMap_append, sub_eq h hr]
    have e : (next t row[i]).flatMap (fun r => sub t r.1 r.2) = (kids t row[i].2).flatMap fun e => sub t (row[i].1 ++ [e.n]) e.i.toNat := by
      unfold next; rw [List.flatMap_map]
    rw [e, List.append_assoc, List.cons_append, List.singleton_append]
    exact List.Perm.append_left _ (List.Perm.cons _ List.perm_append_comm)
theorem Bfs.done {t : Tr} {s : Nat} {row : List Vis} (b : Bfs t s row row.length) : (visits t s).Perm row := by
  have := b.perm
  simpa using this
theorem sub_pos {t : Tr} {s : Nat} (h : Fin t s) {xs : List ByteArray} {n : Nat} (hr : Rch t s xs n) : 1 ≤ (sub t xs n).length := by
  rw [sub_eq h hr]; simp
theorem flat_ge {α β : Type} (f : α → List β) : ∀ l : List α, (∀ x ∈ l, 1 ≤ (f x).length) → l.length ≤ (l.flatMap f).length
  | [], _ => by simp
  | a :: l, h => by
    have h1 := h a (by simp)
    have h2 := flat_ge f l fun x hx => h x (by simp [hx])
    simp only [List.flatMap_cons, List.length_append, List.length_cons]
    omega
theorem Bfs.len {t : Tr} {s : Nat} (h : Fin t s) {row : List Vis} {i : Nat} (b : Bfs t s row i) : row.length ≤ (visits t s).length := by
  have h1 := b.perm.length_eq
  have h2 := flat_ge (fun r : Vis => sub t r.1 r.2) (row.drop i) fun x hx => sub_pos h (b.rch x (List.mem_of_mem_drop hx))
  have h3 := b.le
  simp only [List.length_append, List.length_take, List.length_drop] at h1 h2
  omega

end Go.Proofs.Ytndhhofidkaomaa
