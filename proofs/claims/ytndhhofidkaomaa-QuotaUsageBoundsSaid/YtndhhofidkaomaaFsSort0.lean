/- Slices of strings in memory, appends of several strings to an own row, ascending lists with given members. Conditions: as each theorem states. -/
import Derived.Test.YtndhhofidkaomaaFsFrame
import Derived.Test.YtndhhofidkaomaaAttrNames0
import Derived.Deep.RegionHeld3
import Derived.Deep.AppendLies
import Derived.Deep.DeepAppendWide
import Derived.Deep.Quiet

set_option linter.all false
namespace Go.Proofs.Ytndhhofidkaomaa
open Go.RowKit

theorem own_le {w : World} {base base' n size : Nat} {e : TypeId} {v : Value} {xs : List Value} (h : w.ownsRow base e size v n xs) (hb : base' ≤ base) : w.ownsRow base' e size v n xs := by
  refine ⟨h.1, ?_⟩
  rcases h.2 with h0 | ⟨g, cap, cur, h1, h2, h3⟩
  · exact .inl h0
  · exact .inr ⟨g, cap, cur, h1, by omega, h3⟩
theorem own_empty (w : World) (base n : Nat) (t : TypeId) (hb : base ≤ w.heap.size) (hn : n = w.heap.size) : (w.alloc (.cells #[] t)).ownsRow base t 1 (.slice (some ⟨n, 0, none⟩) 0 0) 0 [] := by
  subst hn
  exact ⟨rfl, .inr ⟨_, 0, #[], rfl, hb, heap_alloc_new w _, Nat.le_refl _, Nat.zero_le _, rfl, rfl⟩⟩
/-- An append of a list of strings to an owned row, as a step of a region that draws its order. -/
theorem step_append_strs {w : World} {ops : Array Oper} {o : Oper} {a : Act} {K : Act → World → Prop} {Q : Exit → Act → World → Prop} {E : Prop} (hgd : o.guard = none) (s x : Operand)
    (ho : o.op = .call { callee := .builtin .append, args := #[s, x], argTypes := #[74, 74] })
    (base : Nat) (v : Value) (n : Nat) (xs : List Value) (hs : a.eval s = v) (hown : w.ownsRow base 9 1 v n xs)
    (B : Nat) (u : Value) (ys : List ByteArray) (hx : a.eval x = u) (hA : Strs w B u ys)
    (hn : n + ys.length ≤ 13194139532928) (hbase : base ≤ w.heap.size)
    (hK : ∀ v' w', w'.ownsRow base 9 1 v' (n + ys.length) (xs ++ ys.map Value.string) → w.grownBy w' v.ownBlock → K (a.put o.dst v') w') :
    if Region.wanted o (yielded ops a.tmps) = true then Oper.wp Try.prog o a w K Q else E := by
  have hw : Region.wanted o (yielded ops a.tmps) = true := by simp [Region.wanted, hgd]
  rw [if_pos hw]
  obtain ⟨i, hi, hz0, hz1, hz2⟩ := info_parts str_info
  obtain ⟨ad, c, rfl, hc, hl, hf, hcell⟩ := hA
  have h1 : ∀ y ∈ ys.map Value.string, y.oneCell' = true := fun z hz => by
    obtain ⟨x, _, rfl⟩ := List.mem_map.1 hz; rfl
  have key : ∀ g : Addr, ad = some g → (∀ j u, (ys.map Value.string)[j]? = some u → w.cell? (g.add j) = some u) → Oper.wp Try.prog o a w K Q := fun g hg hcl => by
    subst hg
    obtain ⟨v', w', hrun, r1, r2, _⟩ := run_append_own_wide (P := Try.prog) w base 74 o.type 9 i _ 1 16 Try.underlying74 hi hz0 hz1 hz2 rfl (by decide) v n xs hown g ys.length c (ys.map Value.string) (by simp) hcl h1 (by unfold maxLen; omega) (by omega) hbase
    unfold Oper.wp
    simp [execOp, ho, resolve, invoke, builtin, hs, hx, hrun, Result.andThen]
    exact hK v' w' r1 r2
  by_cases h0 : ys.length = 0
  · have he : ys = [] := List.eq_nil_of_length_eq_zero h0
    subst he
    cases ad with
    | none =>
      have hrun : (Builtin.append_ #[74, 74] o.type #[v, .slice none 0 c]).run Try.prog w = .ok v w := by
        rcases hown.2 with ⟨rfl, _⟩ | ⟨g, cap, cur, rfl, _, _, hnc, _⟩
        · simp [Builtin.append_, run_underlying Try.underlying74, sizeOf, typeInfo, hi, Builtin.lenOf, Builtin.firstCells]
        · simp [Builtin.append_, run_underlying Try.underlying74, sizeOf, typeInfo, hi, Builtin.lenOf, Builtin.firstCells, hnc, storeCells]
      unfold Oper.wp
      simp [execOp, ho, resolve, invoke, builtin, hs, hx, hrun, Result.andThen]
      exact hK v w (by simpa using hown) (World.grownBy.refl _ _)
    | some g => exact key g rfl (by intro j u hu; simp at hu)
  · obtain ⟨b, of, rfl, hB, hj⟩ := hcell (by omega)
    refine key _ rfl fun j u hu => ?_
    have hjl : j < ys.length := by
      have := (List.getElem?_eq_some_iff.1 hu).1
      simpa using this
    have e : u = .string (ys.getD j ByteArray.empty) := by
      rw [List.getElem?_map, List.getElem?_eq_getElem hjl] at hu
      rw [strD hjl]
      exact (Option.some.inj hu).symm
    have hadd : (⟨b, of, none⟩ : Addr).add j = ⟨b, of + j, none⟩ := by unfold Addr.add; split <;> simp_all
    rw [e, hadd]
    exact hj j hjl
theorem Strs.empty (w : World) (B : Nat) (a : Option Addr) (c : Nat) : Strs w B (.slice a 0 c) [] :=
  ⟨a, c, rfl, by simp, by simp, by simp, fun h => absurd h (by simp)⟩
theorem Strs.cut {w : World} {B : Nat} {a : Option Addr} {n c : Nat} {xs : List ByteArray} (h : Strs w B (.slice a n c) xs) {k : Nat} (hk : k ≤ n) : Strs w B (.slice a k c) (xs.take k) := by
  obtain ⟨a', c', hv, hc, hl, hf, hx⟩ := h
  injection hv with h1 hn h2
  subst h1 h2 hn
  have hlen : (xs.take k).length = k := by simp; omega
  refine ⟨a, c, by rw [hlen], by omega, by omega, fun e he => hf e (List.mem_of_mem_take he), fun h0 => ?_⟩
  obtain ⟨b, o, ha, hB, hj⟩ := hx (by omega)
  refine ⟨b, o, ha, hB, fun j h => ?_⟩
  have e : (xs.take k).getD j ByteArray.empty = xs.getD j ByteArray.empty := by
    rw [List.getD_eq_getElem?_getD, List.getD_eq_getElem?_getD, List.getElem?_take_of_lt (by omega)]
  rw [e]; exact hj j (by omega)
theorem Strs.from_ {w : World} {B b o n c : Nat} {xs : List ByteArray} (h : Strs w B (.slice (some ⟨b, o, none⟩) n c) xs) {k : Nat} (hk : k ≤ n) : Strs w B (.slice (some ⟨b, o + k, none⟩) (n - k) (c - k)) (xs.drop k) := by
  obtain ⟨a', c', hv, hc, hl, hf, hx⟩ := h
  injection hv with h1 hn h2
  subst h1 h2 hn
  have hlen : (xs.drop k).length = xs.length - k := by simp
  refine ⟨_, c - k, by rw [hlen], by omega, by omega, fun e he => hf e (List.mem_of_mem_drop he), fun h0 => ?_⟩
  obtain ⟨b', o', ha, hB, hj⟩ := hx (by omega)
  injection ha with ha
  injection ha with ha1 ha2
  subst ha1 ha2
  refine ⟨b, _, rfl, hB, fun j h => ?_⟩
  have e : (xs.drop k).getD j ByteArray.empty = xs.getD (k + j) ByteArray.empty := by
    rw [List.getD_eq_getElem?_getD, List.getD_eq_getElem?_getD, List.getElem?_drop]
  rw [e]
  have := hj (k + j) (by omega)
  rw [show o + k + j = o + (k + j) by omega]; exact this

theorem ins_new {l : List ByteArray} (hl : Asc l) {s : ByteArray} {k : Nat} (hk : k ≤ l.length) (h1 : ∀ j, j < k → ltS (l.getD j ByteArray.empty) s = true) (h2 : k < l.length → ltS (l.getD k ByteArray.empty) s = false ∧ l.getD k ByteArray.empty ≠ s) : insU l s = l.take k ++ [s] ++ l.drop k := by
  have hp := posU_of hl hk h1 (fun h => (h2 h).1)
  unfold insU
  rw [hp, if_neg]
  rw [hasU_iff]
  intro hm
  obtain ⟨j, hj, e⟩ := List.mem_iff_getElem.1 hm
  rw [← strD hj] at e
  by_cases hjk : j < k
  · exact ltS_ne (h1 j hjk) e
  · obtain ⟨q1, q2⟩ := h2 (by omega)
    by_cases e2 : j = k
    · subst e2; exact q2 e
    · have h3 := List.pairwise_iff_getElem.1 hl k j (by omega) hj (by omega)
      rw [← strD, ← strD, e, q1] at h3
      cases h3
theorem Strs.drew {w : World} {B : Nat} {v : Value} {xs : List ByteArray} (h : Strs w B v xs) : Strs w.drew B v xs := h
theorem strs_cell {w : World} {B g : Nat} {y : ByteArray} (hc : w.cell? ⟨g, 0, none⟩ = some (.string y)) (hg : g < B) (hy : y.size ≤ maxLen) : Strs w B (.slice (some ⟨g, 0, none⟩) 1 1) [y] := by
  refine ⟨_, _, rfl, by simp, by simp, by simpa using hy, fun _ => ⟨_, _, rfl, hg, ?_⟩⟩
  intro j hj
  match j, hj with
  | 0, _ => simpa using hc
theorem cell_grown {w w' : World} {row : Option Nat} (hg : w.grownBy w' row) {n : Nat} {u : Value} (hc : w.cell? ⟨n, 0, none⟩ = some u) (hn : some n ≠ row) : w'.cell? ⟨n, 0, none⟩ = some u := by
  have hlt : n < w.heap.size := by
    rcases Nat.lt_or_ge n w.heap.size with hlt | hge
    · exact hlt
    · unfold World.cell? at hc; rw [Array.getElem?_eq_none hge] at hc; simp at hc
  exact (World.cell?_of_block (a := ⟨n, 0, none⟩) (hg.block n hlt hn)).trans hc
theorem Strs.spot {w : World} {B n c : Nat} {a : Option Addr} {xs : List ByteArray} (h : Strs w B (.slice a n c) xs) (h0 : 0 < xs.length) : ∃ b o, a = some ⟨b, o, none⟩ ∧ b < B ∧ ∀ j, j < xs.length → w.cell? ⟨b, o + j, none⟩ = some (.string (xs.getD j ByteArray.empty)) := by
  obtain ⟨a', c', hv, _, _, _, hx⟩ := h
  injection hv with h1 _ h2
  subst h1
  exact hx h0
theorem Strs.form {w : World} {B n : Nat} {v : Value} {xs : List ByteArray} (h : Strs w B v xs) (hn : xs.length = n) : ∃ a c, v = .slice a n c ∧ n ≤ c := by
  subst hn
  obtain ⟨a, c, hv, hc, _⟩ := h
  exact ⟨a, c, hv, hc⟩
theorem Strs.none_ (w : World) (B : Nat) : Strs w B (.slice none 0 0) [] :=
  ⟨none, 0, rfl, by simp, by simp, by simp, fun h => absurd h (by simp)⟩
theorem cell_al {w : World} {b o : Nat} {v : Value} (h : w.cell? ⟨b, o, none⟩ = some v) (x : Obj) : (w.alloc x).cell? ⟨b, o, none⟩ = some v :=
  (((Below.refl w.heap.size w).alloc (Nat.le_refl _) x).cell (p := ⟨b, o, none⟩) (cell_lt h)).trans h
/-- What holds at the head of the outer loop. -/
structure SNv (w wr : World) (acc : List ByteArray) (v : Value) : Prop where
  B : Below w.heap.size w wr
  own : wr.ownsRow w.heap.size 9 1 v acc.length (acc.map Value.string)
theorem SNv.drewN {w wr : World} {acc : List ByteArray} {v : Value} (h : SNv w wr acc v) (q : Nat) : SNv w (wr.drewN q) acc v := ⟨below_drewN h.B q, h.own⟩
/-- An ascending list with these members. -/
def AscOf (P L : List ByteArray) : Prop := Asc P ∧ ∀ x, x ∈ P ↔ x ∈ L
theorem ascOf_ins {acc L : List ByteArray} {s : ByteArray} {k : Nat} (h : Asc acc) (hm : ∀ x, x ∈ acc ↔ x ∈ L) (hk : k ≤ acc.length) (h1 : ∀ j, j < k → ltS (acc.getD j ByteArray.empty) s = true) (h2 : k < acc.length → ltS s (acc.getD k ByteArray.empty) = true) : Asc (acc.take k ++ [s] ++ acc.drop k) ∧ ∀ x, x ∈ acc.take k ++ [s] ++ acc.drop k ↔ x ∈ L ++ [s] := by
  have hlt : ∀ a ∈ acc.take k, ltS a s = true := by
    intro a ha
    obtain ⟨j, hj, rfl⟩ := List.mem_iff_getElem.1 ha
    rw [List.length_take] at hj
    rw [List.getElem_take, ← strD (by omega)]
    exact h1 j (by omega)
  have hgt : ∀ a ∈ acc.drop k, ltS s a = true := by
    intro a ha
    obtain ⟨j, hj, rfl⟩ := List.mem_iff_getElem.1 ha
    rw [List.length_drop] at hj
    rw [List.getElem_drop]
    have h3 := h2 (by omega)
    by_cases hj0 : j = 0
    · subst hj0
      rw [← strD (by omega)]; exact h3
    · have h4 := List.pairwise_iff_getElem.1 h k (k + j) (by omega) (by omega) (by omega)
      rw [strD (by omega)] at h3
      exact ltS_trans h3 h4
  constructor
  · unfold Asc at h ⊢
    rw [List.pairwise_append, List.pairwise_append]
    refine ⟨⟨h.sublist (List.take_sublist _ _), List.pairwise_singleton _ _, fun a ha c hc => ?_⟩, h.sublist (List.drop_sublist _ _), fun a ha c hc => ?_⟩
    · obtain rfl : c = s := by simpa using hc
      exact hlt a ha
    · rcases List.mem_append.1 ha with ha | ha
      · exact ltS_trans (hlt a ha) (hgt c hc)
      · obtain rfl : a = s := by simpa using ha
        exact hgt c hc
  · intro x
    rw [List.mem_append, List.mem_append, List.mem_append, ← hm x]
    conv => rhs; lhs; rw [← List.take_append_drop k acc]
    rw [List.mem_append]
    constructor
    · rintro ((h | h) | h)
      · exact .inl (.inl h)
      · exact .inr h
      · exact .inl (.inr h)
    · rintro ((h | h) | h)
      · exact .inl (.inl h)
      · exact .inr h
      · exact .inl (.inr h)
/-- What a function leaves that returns these strings in ascending order. -/
def SortPost (L : List ByteArray) (w : World) (e : Ending) (w' : World) : Prop := ∃ v P, e = .returned v ∧ AscOf P L ∧ Strs w' w'.heap.size v P ∧ (∀ q, v.ownBlock = some q → w.heap.size ≤ q) ∧ Below w.heap.size w w'

end Go.Proofs.Ytndhhofidkaomaa
