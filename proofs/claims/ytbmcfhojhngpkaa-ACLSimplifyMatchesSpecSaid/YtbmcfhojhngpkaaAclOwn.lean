/- Rows of entries that a call owns, as the list of their cells; append to such a row. Conditions: as each theorem states. -/
import Derived.Test.YtbmcfhojhngpkaaAclSlice
import Derived.Laws.AppendOwn
import Derived.Laws.AppendOwnNone
import Derived.Laws.OwnMore
import Derived.OwnWalk
namespace Go.Proofs.Ytbmcfhojhngpkaa
open Go.RowKit

def Ent.cells (e : Ent) : List Value := [.int .i64 e.u, .int .i64 e.a, .int .i64 e.d]
def flatE (es : List Ent) : List Value := es.flatMap Ent.cells
theorem flatE_cons (e : Ent) (es : List Ent) : flatE (e :: es) = .int .i64 e.u :: .int .i64 e.a :: .int .i64 e.d :: flatE es := by
  unfold flatE Ent.cells; rw [List.flatMap_cons]; rfl
theorem flatE_append (xs ys : List Ent) : flatE (xs ++ ys) = flatE xs ++ flatE ys := by unfold flatE; rw [List.flatMap_append]
theorem flatE_len : ∀ es : List Ent, (flatE es).length = es.length * 3
  | [] => rfl
  | e :: es => by rw [flatE_cons]; simp only [List.length_cons]; rw [flatE_len es]; omega
theorem flatE_one : ∀ (es : List Ent), ∀ u ∈ flatE es, u.oneCell' = true
  | [], u, h => by simp [flatE] at h
  | e :: es, u, h => by
    rw [flatE_cons] at h
    rcases List.mem_cons.1 h with rfl | h
    · rfl
    · rcases List.mem_cons.1 h with rfl | h
      · rfl
      · rcases List.mem_cons.1 h with rfl | h
        · rfl
        · exact flatE_one es u h
theorem flatE_get : ∀ (es : List Ent) (j : Nat), j < es.length →
    (flatE es)[j * 3]? = some (.int .i64 (es.getD j E0).u) ∧ (flatE es)[j * 3 + 1]? = some (.int .i64 (es.getD j E0).a) ∧ (flatE es)[j * 3 + 2]? = some (.int .i64 (es.getD j E0).d)
  | [], j, h => absurd h (by simp)
  | e :: es, 0, _ => by rw [flatE_cons]; simp
  | e :: es, j + 1, h => by
    have ih := flatE_get es j (by simpa using h)
    have e1 : (j + 1) * 3 = j * 3 + 1 + 1 + 1 := by omega
    rw [flatE_cons, e1]
    simpa using ih

theorem acls_own {w : World} {base n : Nat} {v : Value} {es : List Ent} (h : w.ownsRow base 27 3 v n (flatE es)) (hf : ∀ e ∈ es, e.fits) (hl : es.length ≤ 5864062014805) : Acls w w.heap.size v es := by
  have hn : n = es.length := by have := h.1; rw [flatE_len] at this; omega
  subst hn
  rcases h.2 with ⟨hv, h0⟩ | ⟨g, cap, cur, hv, _, hg, hnc, _, _, _⟩
  · have : es = [] := List.eq_nil_of_length_eq_zero h0
    subst this
    rw [hv]; exact Acls.none_ _ _
  · have hlt : g < w.heap.size := by
      rcases Nat.lt_or_ge g w.heap.size with hlt | hge
      · exact hlt
      · rw [Array.getElem?_eq_none hge] at hg; cases hg
    rw [hv] at h
    refine ⟨_, cap, hv, hnc, hl, hf, fun _ => ⟨g, 0, rfl, hlt, fun j hj => ?_⟩⟩
    obtain ⟨h1, h2, h3⟩ := flatE_get es j hj
    rw [← h.cellAt (j * 3) (by omega)] at h1
    rw [← h.cellAt (j * 3 + 1) (by omega)] at h2
    rw [← h.cellAt (j * 3 + 2) (by omega)] at h3
    simp only [Nat.zero_add]
    exact ⟨h1, h2, h3⟩

theorem own_ent (w : World) (base n : Nat) (hn : n = w.heap.size) (hb : base ≤ w.heap.size) (e : Ent) : (w.alloc (.cells #[.int .i64 e.u, .int .i64 e.a, .int .i64 e.d] 27)).ownsRow base 27 3 (.slice (some ⟨n, 0, none⟩) 1 1) 1 (flatE [e]) := by
  subst hn
  refine ⟨rfl, .inr ⟨_, 1, _, rfl, hb, heap_alloc_new w _, by omega, by simp [maxLen], rfl, rfl⟩⟩

theorem ent_info : (Try.prog.info? 27).map (fun i => (i.zero, i.size, i.bytes)) = some (some (.agg #[.int .i64 0, .int .i64 0, .int .i64 0]), 3, 24) := by kernel_rfl

/-- append(s, x...): s a row of the call's own (or nil), x any list of entries. -/
theorem wpList_append_ents {w : World} {ops : Array Oper} {rest : List Oper} {o : Oper} {a : Act} {Q : Exit → Act → World → Prop} (hgd : o.guard = none) (s x : Operand)
    (ho : o.op = .call { callee := .builtin .append, args := #[s, x], argTypes := #[22, 22] })
    (base : Nat) (v : Value) (n : Nat) (xs : List Ent) (hs : a.eval s = v) (hown : w.ownsRow base 27 3 v n (flatE xs))
    (B : Nat) (u : Value) (es : List Ent) (hx : a.eval x = u) (hA : Acls w B u es)
    (hbytes : (n + es.length) * 24 ≤ 140737488355328) (hbase : base ≤ w.heap.size)
    (h : ∀ v' w', w'.ownsRow base 27 3 v' (n + es.length) (flatE (xs ++ es)) → w.grownBy w' v.ownBlock → wpList Try.prog ops Q rest (a.put o.dst v') w') : wpList Try.prog ops Q (o :: rest) a w := by
  obtain ⟨i0, hi, hz0, hz1, hz2⟩ := info_parts ent_info
  obtain ⟨ad, c, rfl, hc, hl, hf, hcell⟩ := hA
  by_cases h0 : es.length = 0
  · have he : es = [] := List.eq_nil_of_length_eq_zero h0
    subst he
    cases ad with
    | none =>
      refine wpList_plain hgd fun K hK => ?_
      have hrun : (Builtin.append_ #[22, 22] o.type #[v, .slice none 0 c]).run Try.prog w = .ok v w := by
        rcases hown.2 with ⟨rfl, _⟩ | ⟨g, cap, cur, rfl, _, _, hnc, _⟩
        · simp [Builtin.append_, run_underlying Try.underlying22, sizeOf, typeInfo, hi, Builtin.lenOf, Builtin.firstCells]
        · simp [Builtin.append_, run_underlying Try.underlying22, sizeOf, typeInfo, hi, Builtin.lenOf, Builtin.firstCells, hnc, storeCells]
      unfold Oper.wp
      simp [execOp, ho, resolve, invoke, builtin, hs, hx, hrun, Result.andThen]
      exact hK _ _ (h v w (by simpa using hown) (World.grownBy.refl w _))
    | some ad =>
      refine wpList_append_own w hgd s x 22 ho base 27 i0 _ 3 24 Try.underlying22 hi hz0 hz1 hz2 rfl (by omega) v n (flatE xs) hs hown ad _ c (flatE []) hx rfl (by intro j u hu; simp [flatE] at hu) (flatE_one _) (by unfold maxLen; omega) (by omega) hbase fun v' w' h1 h2 _ => h v' w' (by rw [flatE_append]; exact h1) h2
  · obtain ⟨b, of, rfl, hB, hj⟩ := hcell (by omega)
    refine wpList_append_own w hgd s x 22 ho base 27 i0 _ 3 24 Try.underlying22 hi hz0 hz1 hz2 rfl (by omega) v n (flatE xs) hs hown ⟨b, of, none⟩ _ c (flatE es) hx (flatE_len es) (by
      intro j u hu
      have hjl : j < es.length * 3 := by
        rw [← flatE_len es]
        exact (List.getElem?_eq_some_iff.1 hu).1
      obtain ⟨q, hq, hr⟩ : ∃ q, q < es.length ∧ (j = q * 3 ∨ j = q * 3 + 1 ∨ j = q * 3 + 2) := ⟨j / 3, by omega, by omega⟩
      obtain ⟨h1, h2, h3⟩ := flatE_get es q hq
      obtain ⟨g1, g2, g3⟩ := hj q hq
      have hadd : (⟨b, of, none⟩ : Addr).add j = ⟨b, of + j, none⟩ := by unfold Addr.add; split <;> simp_all
      rw [hadd]
      rcases hr with rfl | rfl | rfl
      · rw [h1] at hu; injection hu with hu; subst hu; exact g1
      · rw [h2] at hu; injection hu with hu; subst hu; exact g2
      · rw [h3] at hu; injection hu with hu; subst hu; exact g3) (flatE_one _) (by unfold maxLen; omega) (by omega) hbase fun v' w' h1 h2 _ => h v' w' (by rw [flatE_append]; exact h1) h2

end Go.Proofs.Ytbmcfhojhngpkaa
