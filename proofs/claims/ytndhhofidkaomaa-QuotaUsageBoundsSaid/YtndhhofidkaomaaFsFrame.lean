/- What a call leaves alone that writes a set of blocks and one row; rows of strings as a call owns them; an append of one string to such a row, with where the new slice lies. Conditions: as each theorem states. -/
import Derived.Test.YtndhhofidkaomaaFsTree
import Derived.Test.YtndhhofidkaomaaFsFacts
import Derived.Test.YtndhhofidkaomaaAttrValid
import Derived.WalkSmall
import Derived.Maps.AppendAt
import Derived.Deep.RegionHeld3
import Derived.Laws.OwnMore
import Derived.Deep.AppendLies

set_option linter.all false
namespace Go.Proofs.Ytndhhofidkaomaa
open Go.RowKit

/-- All blocks are as they were, but for those of S and one row. -/
structure Kept (S : Nat → Prop) (row : Option Nat) (w w' : World) : Prop where
  os : w'.os = w.os
  tape : w'.tape = w.tape
  output : w'.output = w.output
  size : w.heap.size ≤ w'.heap.size
  block : ∀ k, k < w.heap.size → ¬ S k → some k ≠ row → w'.heap[k]? = w.heap[k]?
theorem Kept.refl (S : Nat → Prop) (row : Option Nat) (w : World) : Kept S row w w := ⟨rfl, rfl, rfl, Nat.le_refl _, fun _ _ _ _ => rfl⟩
theorem Kept.trans {S : Nat → Prop} {row : Option Nat} {a b c : World} (h : Kept S row a b) (k : Kept S row b c) : Kept S row a c :=
  ⟨k.os.trans h.os, k.tape.trans h.tape, k.output.trans h.output, Nat.le_trans h.size k.size, fun i hi hS hr => (k.block i (Nat.lt_of_lt_of_le hi h.size) hS hr).trans (h.block i hi hS hr)⟩
theorem Kept.of_below {S : Nat → Prop} {row : Option Nat} {a b : World} (h : Below a.heap.size a b) : Kept S row a b := ⟨h.os, h.tape, h.output, h.size, fun k hk _ _ => h.block k hk⟩
theorem Kept.of_grown {S : Nat → Prop} {row : Option Nat} {a b : World} (h : a.grownBy b row) : Kept S row a b := ⟨h.os, h.tape, h.output, h.size, fun k hk _ hr => h.block k hk hr⟩
/-- A row that was made since counts as new. -/
theorem Kept.since {S : Nat → Prop} {row r2 : Option Nat} {a b c : World} (h : Kept S row a b) (k : Kept S r2 b c) (hr : ∀ g, r2 = some g → row = some g ∨ a.heap.size ≤ g) : Kept S row a c :=
  ⟨k.os.trans h.os, k.tape.trans h.tape, k.output.trans h.output, Nat.le_trans h.size k.size, fun i hi hS hn => (k.block i (Nat.lt_of_lt_of_le hi h.size) hS (fun e => by
    rcases hr i e.symm with h1 | h1
    · exact hn h1.symm
    · omega)).trans (h.block i hi hS hn)⟩
theorem Kept.below {S : Nat → Prop} {row : Option Nat} {a b : World} (h : Kept S row a b) {B : Nat} (hB : B ≤ a.heap.size) (hS : ∀ k, S k → B ≤ k) (hr : ∀ g, row = some g → B ≤ g) : Below B a b :=
  ⟨h.os, h.tape, h.output, h.size, fun k hk => h.block k (by omega) (fun hs => by have := hS k hs; omega) (fun e => by have := hr k e.symm; omega)⟩
theorem One.kept {S : Nat → Prop} {row : Option Nat} {a b : World} {n : Nat} {v : Value} (h : One a n v) (k : Kept S row a b) (hS : ¬ S n) (hr : some n ≠ row) : One b n v := by
  have hb := k.block n h.lt hS hr
  have f : b.frozen? ⟨n, 0, none⟩ = a.frozen? ⟨n, 0, none⟩ := by unfold World.frozen?; simp only [hb]
  exact ⟨Nat.lt_of_lt_of_le h.lt k.size, (World.cell?_of_block (a := ⟨n, 0, none⟩) hb).trans h.c0, f.trans h.f0⟩
theorem own_block {w w' : World} {base size n : Nat} {e : TypeId} {v : Value} {xs : List Value} (h : w.ownsRow base e size v n xs) (hb : ∀ g, v.ownBlock = some g → g < w.heap.size → w'.heap[g]? = w.heap[g]?) : w'.ownsRow base e size v n xs := by
  refine ⟨h.1, ?_⟩
  rcases h.2 with hn | ⟨g, cap, cur, rfl, hb', hgg, rest⟩
  · exact .inl hn
  · refine .inr ⟨g, cap, cur, rfl, hb', ?_, rest⟩
    rw [hb g rfl (Array.getElem?_eq_some_iff.1 hgg).1]
    exact hgg
theorem own_low {w : World} {base size n : Nat} {e : TypeId} {v : Value} {xs : List Value} (h : w.ownsRow base e size v n xs) : ∀ g, v.ownBlock = some g → base ≤ g := by
  intro g hg
  rcases h.2 with ⟨rfl, _⟩ | ⟨g', cap, cur, rfl, hb', _⟩
  · simp [Value.ownBlock] at hg
  · simp [Value.ownBlock] at hg; omega
theorem own_in {w : World} {base size n : Nat} {e : TypeId} {v : Value} {xs : List Value} (h : w.ownsRow base e size v n xs) : ∀ g, v.ownBlock = some g → g < w.heap.size := by
  intro g hg
  rcases h.2 with ⟨rfl, _⟩ | ⟨g', cap, cur, rfl, hb', hgg, _⟩
  · simp [Value.ownBlock] at hg
  · simp [Value.ownBlock] at hg; subst hg; exact (Array.getElem?_eq_some_iff.1 hgg).1
/-- A row of strings that a call owns reads as these strings. -/
theorem strs_row {w : World} {base n : Nat} {v : Value} {xs : List ByteArray} (h : w.ownsRow base 9 1 v n (xs.map Value.string)) (hf : ∀ x ∈ xs, x.size ≤ maxLen) (hl : xs.length ≤ 35184372088832) : Strs w w.heap.size v xs := by
  have hn : n = xs.length := by have := h.1; simp at this; omega
  subst hn
  rcases h.2 with ⟨hv, h0⟩ | ⟨g, cap, cur, hv, _, hg, hnc, _, _, _⟩
  · have : xs = [] := List.eq_nil_of_length_eq_zero h0
    subst this
    rw [hv]
    exact ⟨none, 0, rfl, by simp, by simp, by simp, fun h => absurd h (by simp)⟩
  · have hlt : g < w.heap.size := (Array.getElem?_eq_some_iff.1 hg).1
    rw [hv] at h
    refine ⟨_, cap, hv, hnc, hl, hf, fun _ => ⟨g, 0, rfl, hlt, fun j hj => ?_⟩⟩
    rw [Nat.zero_add, h.cellAt j (by omega), List.getElem?_map, List.getD_eq_getElem?_getD, List.getElem?_eq_getElem hj]
    rfl

theorem str_info : (Try.prog.info? 9).map (fun i => (i.zero, i.size, i.bytes)) = some (some (.string ByteArray.empty), 1, 16) := by kernel_rfl
/-- Where the row is that an append of one string leaves. -/
structure Put1 (w w' : World) (base : Nat) (v : Value) (n : Nat) (xs : List Value) (y : ByteArray) (g cap : Nat) : Prop where
  own : w'.ownsRow base 9 1 (.slice (some ⟨g, 0, none⟩) (n + 1) cap) (n + 1) (xs ++ [.string y])
  grown : w.grownBy w' v.ownBlock
  at_ : v = .slice (some ⟨g, 0, none⟩) n cap ∨ (g = w.heap.size ∧ w.grownBy w' none)
theorem run_put1 (w : World) (ty : TypeId) (base : Nat) (v : Value) (n : Nat) (xs : List Value) (hown : w.ownsRow base 9 1 v n xs) (q : Nat) (y : ByteArray) (hc : w.cell? ⟨q, 0, none⟩ = some (.string y)) (hn : n ≤ 100000) (hbase : base ≤ w.heap.size) :
    ∃ g cap w', (Builtin.append_ #[74, 74] ty #[v, .slice (some ⟨q, 0, none⟩) 1 1]).run Try.prog w = .ok (.slice (some ⟨g, 0, none⟩) (n + 1) cap) w' ∧ Put1 w w' base v n xs y g cap := by
  obtain ⟨i0, hi, hz0, hz1, hz2⟩ := info_parts str_info
  have hnews : ∀ j u, [Value.string y][j]? = some u → w.cell? ((⟨q, 0, none⟩ : Addr).add j) = some u := by
    intro j u hu
    match j, hu with
    | 0, hu =>
      have e : u = .string y := by simpa using hu.symm
      rw [e]; simpa [Addr.add] using hc
    | j + 1, hu => simp at hu
  obtain ⟨v', w', hr, h2, h3, _, h5⟩ := run_append_own_at (P := Try.prog) w base 74 ty 9 i0 _ 1 16 Try.underlying74 hi hz0 hz1 hz2 rfl (by omega) v n xs hown ⟨q, 0, none⟩ 1 1 [.string y] rfl hnews (by simp [Value.oneCell']) (by unfold maxLen; omega) (by omega) hbase
  obtain ⟨g, cap, rfl, _, _⟩ := h2.form (by omega)
  refine ⟨g, cap, w', hr, h2, h3, ?_⟩
  rcases hown.2 with ⟨rfl, _⟩ | ⟨g', cap', cur, rfl, hb', hgg, hnc, hcm, hcs, htake⟩
  · right
    rcases h5 with h5 | h5
    · simp [Value.ownBlock] at h5
    · exact ⟨by simpa [Value.ownBlock] using h5, by simpa [Value.ownBlock] using h3⟩
  · have hgl := (Array.getElem?_eq_some_iff.1 hgg).1
    by_cases hroom : n + 1 ≤ cap'
    · have hr2 := run_append_room (P := Try.prog) (w := w) 74 ty 9 i0 Try.underlying74 hi g' n cap' cur hgg ⟨q, 0, none⟩ 1 1 [.string y] (by rw [hz1]; rfl) hnews (by simp [Value.oneCell']) hroom (by rw [hz1, hcs]; simp; omega)
      rw [hr] at hr2
      injection hr2 with e1 e2
      injection e1 with e3 _ e4
      injection e3 with e3
      injection e3 with e3 _ _
      exact .inl (by rw [e3, e4])
    · have holds : ∀ j u, xs[j]? = some u → w.cell? ((⟨g', 0, none⟩ : Addr).add j) = some u := hown.cells (g := g') rfl
      have hr2 := run_append_grow (P := Try.prog) (w := w) 74 ty 9 i0 _ Try.underlying74 hi hz0 ⟨g', 0, none⟩ n cap' xs (by rw [hz1]; exact hown.1) holds ⟨q, 0, none⟩ 1 1 [.string y] (by rw [hz1]; rfl) hnews (by omega) (by omega) (growslice_fits (by omega) (by rw [hz2]; omega))
      rw [hr] at hr2
      injection hr2 with e1 e2
      injection e1 with e3 _ _
      injection e3 with e3
      injection e3 with e3 _ _
      right
      refine ⟨e3, ?_⟩
      rw [e2]
      exact ⟨rfl, rfl, rfl, by simp, fun k hk _ => heap_alloc_old w.drew _ hk⟩
/-- As a step of a region that draws its order. -/
theorem step_put1 {w : World} {ops : Array Oper} {o : Oper} {a : Act} {K : Act → World → Prop} {Q : Exit → Act → World → Prop} {E : Prop} (hgd : o.guard = none) (s x : Operand)
    (ho : o.op = .call { callee := .builtin .append, args := #[s, x], argTypes := #[74, 74] })
    (base : Nat) (v : Value) (n : Nat) (xs : List Value) (hs : a.eval s = v) (hown : w.ownsRow base 9 1 v n xs)
    (q : Nat) (y : ByteArray) (hx : a.eval x = .slice (some ⟨q, 0, none⟩) 1 1) (hc : w.cell? ⟨q, 0, none⟩ = some (.string y))
    (hn : n ≤ 100000) (hbase : base ≤ w.heap.size)
    (hK : ∀ g cap w', Put1 w w' base v n xs y g cap → K (a.put o.dst (.slice (some ⟨g, 0, none⟩) (n + 1) cap)) w') :
    if Region.wanted o (yielded ops a.tmps) = true then Oper.wp Try.prog o a w K Q else E := by
  have hw : Region.wanted o (yielded ops a.tmps) = true := by simp [Region.wanted, hgd]
  rw [if_pos hw]
  obtain ⟨g, cap, w', hrun, hp⟩ := run_put1 w o.type base v n xs hown q y hc hn hbase
  unfold Oper.wp
  simp [execOp, ho, resolve, invoke, builtin, hs, hx, hrun, Result.andThen]
  exact hK g cap w' hp
/-- In a plain region. -/
theorem wpList_put1 {w : World} {ops : Array Oper} {rest : List Oper} {o : Oper} {a : Act} {Q : Exit → Act → World → Prop} (hgd : o.guard = none) (s x : Operand)
    (ho : o.op = .call { callee := .builtin .append, args := #[s, x], argTypes := #[74, 74] })
    (base : Nat) (v : Value) (n : Nat) (xs : List Value) (hs : a.eval s = v) (hown : w.ownsRow base 9 1 v n xs)
    (q : Nat) (y : ByteArray) (hx : a.eval x = .slice (some ⟨q, 0, none⟩) 1 1) (hc : w.cell? ⟨q, 0, none⟩ = some (.string y))
    (hn : n ≤ 100000) (hbase : base ≤ w.heap.size)
    (hK : ∀ g cap w', Put1 w w' base v n xs y g cap → wpList Try.prog ops Q rest (a.put o.dst (.slice (some ⟨g, 0, none⟩) (n + 1) cap)) w') : wpList Try.prog ops Q (o :: rest) a w := by
  refine wpList_plain hgd fun K hK2 => ?_
  obtain ⟨g, cap, w', hrun, hp⟩ := run_put1 w o.type base v n xs hown q y hc hn hbase
  unfold Oper.wp
  simp [execOp, ho, resolve, invoke, builtin, hs, hx, hrun, Result.andThen]
  exact hK2 _ _ (hK g cap w' hp)

end Go.Proofs.Ytndhhofidkaomaa
