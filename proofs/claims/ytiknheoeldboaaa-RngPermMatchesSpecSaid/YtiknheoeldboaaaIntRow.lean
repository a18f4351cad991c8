/- Rows of ints that a call owns: an append of one int; what such a row reads as. Conditions: as each theorem states. -/
import Derived.Test.YtiknheoeldboaaaRow0
import Derived.Maps.AppendAt

set_option linter.all false
namespace Go.Proofs.Ytiknheoeldboaaa
open Go.RowKit

def intL (xs : List Int) : List Value := xs.map (Value.int .i64)
theorem intL_append (xs ys : List Int) : intL (xs ++ ys) = intL xs ++ intL ys := by unfold intL; rw [List.map_append]
theorem intL_len (xs : List Int) : (intL xs).length = xs.length := by unfold intL; simp
set_option maxRecDepth 100000 in
/-- append(row, x): row a row of the call's own, x one int in a block of its own; where the new row lies. -/
theorem wpList_append_int {w : World} {ops : Array Oper} {rest : List Oper} {o : Oper} {a : Act} {Q : Exit → Act → World → Prop} (hgd : o.guard = none) (s x : Operand)
    (ho : o.op = .call { callee := .builtin .append, args := #[s, x], argTypes := #[33, 33] })
    (base : Nat) (v : Value) (n : Nat) (L : List Int) (hs : a.eval s = v) (hown : w.ownsRow base 3 1 v n (intL L))
    (q : Nat) (p : Int) (hx : a.eval x = .slice (some ⟨q, 0, none⟩) 1 1)
    (h0 : w.cell? ⟨q, 0, none⟩ = some (.int .i64 p))
    (hn : n ≤ 100000) (hbase : base ≤ w.heap.size)
    (h : ∀ v' w', w'.ownsRow base 3 1 v' (n + 1) (intL (L ++ [p])) → w.grownBy w' v.ownBlock → (v'.ownBlock = v.ownBlock ∨ v'.ownBlock = some w.heap.size) → wpList Try.prog ops Q rest (a.put o.dst v') w') : wpList Try.prog ops Q (o :: rest) a w := by
  obtain ⟨i0, hi, hz0, hz1, hz2⟩ := info_parts int_info
  refine wpList_plain hgd fun K hK2 => ?_
  obtain ⟨v', w', hrun, g1, g2, _, g3⟩ := run_append_own_at (P := Try.prog) w base 33 o.type 3 i0 _ 1 8 Try.underlying33 hi hz0 hz1 hz2 rfl (by omega) v n (intL L) hown ⟨q, 0, none⟩ 1 1 (intL [p]) rfl (by
      intro j u hu
      have hjl : j < 1 := (List.getElem?_eq_some_iff.1 hu).1
      obtain rfl : j = 0 := by omega
      have hadd : (⟨q, 0, none⟩ : Addr).add 0 = ⟨q, 0, none⟩ := by unfold Addr.add; split <;> simp_all
      rw [hadd]
      simp [intL] at hu; subst hu; exact h0) (by intro u hu; simp [intL] at hu; subst hu; rfl) (by unfold maxLen; omega) (by omega) hbase
  unfold Oper.wp
  simp [execOp, ho, resolve, invoke, builtin, hs, hx, hrun, Result.andThen]
  exact hK2 _ _ (h v' w' (by rw [intL_append]; exact g1) g2 g3)
/-- A row of ints: nil, or a block that holds them. -/
theorem int_row {w : World} {base n : Nat} {v : Value} {L : List Int} (h : w.ownsRow base 3 1 v n (intL L)) : n = L.length ∧ ((v = .slice none 0 0 ∧ L = []) ∨ ∃ g cap, v = .slice (some ⟨g, 0, none⟩) n cap ∧ base ≤ g ∧ g < w.heap.size ∧ ∀ j, j < n → w.cell? ⟨g, j, none⟩ = some (.int .i64 (L.getD j 0))) := by
  have hn : n = L.length := by have := h.1; rw [intL_len] at this; omega
  refine ⟨hn, ?_⟩
  rcases h.2 with ⟨hv, h0⟩ | ⟨g, cap, cur, hv, hb, hg, hnc, _, _, _⟩
  · exact .inl ⟨hv, List.eq_nil_of_length_eq_zero (by omega)⟩
  · refine .inr ⟨g, cap, hv, hb, (Array.getElem?_eq_some_iff.1 hg).1, fun j hj => ?_⟩
    rw [hv] at h
    rw [h.cellAt j (by omega)]
    unfold intL
    rw [List.getElem?_map, List.getElem?_eq_getElem (by omega), List.getD_eq_getElem?_getD, List.getElem?_eq_getElem (by omega)]
    rfl

theorem own_formQ {w : World} {base size n : Nat} {e : TypeId} {v : Value} {xs : List Value} (h : w.ownsRow base e size v n xs) : ∃ a c, v = .slice a n c := by
  rcases h.2 with ⟨rfl, rfl⟩ | ⟨g, cap, cur, rfl, _⟩
  · exact ⟨_, _, rfl⟩
  · exact ⟨_, _, rfl⟩
/-- A row of the call's own as a row of ints in a block. -/
theorem int_rowR {w : World} {base n : Nat} {v : Value} {L : List Int} (h : w.ownsRow base 3 1 v n (intL L)) (hn : 0 < n) : ∃ g cap, v = .slice (some ⟨g, 0, none⟩) n cap ∧ base ≤ g ∧ Row w g n (fun j => .int .i64 (L.getD j 0)) := by
  obtain ⟨hl, hh⟩ := int_row h
  rcases hh with ⟨_, h0⟩ | ⟨g, cap, hv, hb, hlt, hc⟩
  · subst h0; simp at hl; omega
  · refine ⟨g, cap, hv, hb, hlt, hc, fun j => ?_⟩
    rcases h.2 with ⟨h1, _⟩ | ⟨g', cap', cur, h1, _, hg, _⟩
    · rw [hv] at h1; cases h1
    · rw [hv] at h1; cases h1
      unfold World.frozen?
      simp [hg]

end Go.Proofs.Ytiknheoeldboaaa
