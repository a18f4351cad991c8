/- Slices of attributes in memory: what a slice reads as, kept over new blocks; rows that a call owns, as the list of their cells; append to such a row. Conditions: as each theorem states. -/
import Derived.Test.YtndhhofidkaomaaAttrPlain
import Derived.Laws.AppendOwn
import Derived.Laws.AppendOwnNone
import Derived.Laws.OwnMore
import Derived.OwnWalk

set_option linter.all false
namespace Go.Proofs.Ytndhhofidkaomaa
open Go.RowKit

/-- The slice value v reads as the attributes xs, all of it below block B. -/
def Ats (w : World) (B : Nat) (v : Value) (xs : List Attr) : Prop :=
  ∃ a c, v = .slice a xs.length c ∧ xs.length ≤ c ∧ xs.length ≤ 4398046511104 ∧ (∀ e ∈ xs, e.fits) ∧
    (0 < xs.length → ∃ b o, a = some ⟨b, o, none⟩ ∧ b < B ∧ ∀ j, j < xs.length →
      w.cell? ⟨b, o + j * 2, none⟩ = some (.string (xs.getD j A0).n) ∧ w.cell? ⟨b, o + j * 2 + 1, none⟩ = some (.string (xs.getD j A0).v))
theorem Ats.keep {w w' : World} {B : Nat} {v : Value} {xs : List Attr} (h : Ats w B v xs) (hk : ∀ b o, b < B → w'.cell? ⟨b, o, none⟩ = w.cell? ⟨b, o, none⟩) : Ats w' B v xs := by
  obtain ⟨a, c, hv, hc, hl, hf, hx⟩ := h
  refine ⟨a, c, hv, hc, hl, hf, fun h0 => ?_⟩
  obtain ⟨b, o, ha, hB, hj⟩ := hx h0
  refine ⟨b, o, ha, hB, fun j h => ?_⟩
  rw [hk _ _ hB, hk _ _ hB]
  exact hj j h
theorem Ats.below {w w' : World} {B : Nat} {v : Value} {xs : List Attr} (h : Ats w B v xs) (hb : Below B w w') : Ats w' B v xs :=
  h.keep fun b o hB => hb.cell (p := ⟨b, o, none⟩) hB
theorem Ats.more {w : World} {B B' : Nat} {v : Value} {xs : List Attr} (h : Ats w B v xs) (hB : B ≤ B') : Ats w B' v xs := by
  obtain ⟨a, c, hv, hc, hl, hf, hx⟩ := h
  refine ⟨a, c, hv, hc, hl, hf, fun h0 => ?_⟩
  obtain ⟨b, o, ha, hb, hj⟩ := hx h0
  exact ⟨b, o, ha, by omega, hj⟩
/-- Over whatever leaves all blocks of w alone. -/
theorem Ats.up {w w' : World} {v : Value} {xs : List Attr} (h : Ats w w.heap.size v xs) (hb : Below w.heap.size w w') : Ats w' w'.heap.size v xs :=
  (h.below hb).more hb.size
theorem Ats.alloc {w : World} {B : Nat} {v : Value} {xs : List Attr} (h : Ats w B v xs) (hB : B ≤ w.heap.size) (o : Obj) : Ats (w.alloc o) B v xs :=
  h.below ((Below.refl B w).alloc hB o)
theorem Ats.drewN {w : World} {B : Nat} {v : Value} {xs : List Attr} (h : Ats w B v xs) (q : Nat) : Ats (w.drewN q) B v xs :=
  h.keep fun _ _ _ => rfl
theorem Ats.none_ (w : World) (B : Nat) : Ats w B (.slice none 0 0) [] :=
  ⟨none, 0, rfl, by simp, by simp, by simp, fun h => absurd h (by simp)⟩
theorem Ats.fits {w : World} {B : Nat} {v : Value} {xs : List Attr} (h : Ats w B v xs) : ∀ e ∈ xs, e.fits := by
  obtain ⟨_, _, _, _, _, hf, _⟩ := h; exact hf
theorem Ats.form {w : World} {B n : Nat} {v : Value} {xs : List Attr} (h : Ats w B v xs) (hn : xs.length = n) : ∃ a c, v = .slice a n c ∧ n ≤ c := by
  subst hn
  obtain ⟨a, c, hv, hc, _⟩ := h
  exact ⟨a, c, hv, hc⟩
theorem ats_one (w : World) (n : Nat) (hn : n = w.heap.size) (e : Attr) (hf : e.fits) (t : TypeId) : Ats (w.alloc (.cells #[.string e.n, .string e.v] t)) (w.heap.size + 1) (.slice (some ⟨n, 0, none⟩) 1 1) [e] := by
  subst hn
  refine ⟨_, _, rfl, by simp, by simp, by simpa using hf, fun _ => ⟨_, _, rfl, by simp, ?_⟩⟩
  intro j hj
  match j, hj with
  | 0, _ => simp
theorem Ats.cut {w : World} {B : Nat} {a : Option Addr} {n c : Nat} {xs : List Attr} (h : Ats w B (.slice a n c) xs) {k : Nat} (hk : k ≤ n) : Ats w B (.slice a k c) (xs.take k) := by
  obtain ⟨a', c', hv, hc, hl, hf, hx⟩ := h
  injection hv with h1 hn h2
  subst h1 h2 hn
  have hlen : (xs.take k).length = k := by simp; omega
  refine ⟨a, c, by rw [hlen], by omega, by omega, fun e he => hf e (List.mem_of_mem_take he), fun h0 => ?_⟩
  obtain ⟨b, o, ha, hB, hj⟩ := hx (by omega)
  refine ⟨b, o, ha, hB, fun j h => ?_⟩
  have e : (xs.take k).getD j A0 = xs.getD j A0 := by
    rw [List.getD_eq_getElem?_getD, List.getD_eq_getElem?_getD, List.getElem?_take_of_lt (by omega)]
  rw [e]; exact hj j (by omega)
theorem Ats.from_ {w : World} {B b o n c : Nat} {xs : List Attr} (h : Ats w B (.slice (some ⟨b, o, none⟩) n c) xs) {k : Nat} (hk : k ≤ n) : Ats w B (.slice (some ⟨b, o + k * 2, none⟩) (n - k) (c - k)) (xs.drop k) := by
  obtain ⟨a', c', hv, hc, hl, hf, hx⟩ := h
  injection hv with h1 hn h2
  subst h1 h2 hn
  have hlen : (xs.drop k).length = xs.length - k := by simp
  refine ⟨_, c - k, by rw [hlen], by omega, by omega, fun e he => hf e (List.mem_of_mem_drop he), fun h0 => ?_⟩
  obtain ⟨b', o', ha, hB, hj⟩ := hx (by omega)
  injection ha with ha
  injection ha with ha1 ha2
  subst ha1 ha2
  refine ⟨b, _, rfl, hB, fun j h => ?_⟩
  have e : (xs.drop k).getD j A0 = xs.getD (k + j) A0 := by
    rw [List.getD_eq_getElem?_getD, List.getD_eq_getElem?_getD, List.getElem?_drop]
  rw [e]
  have := hj (k + j) (by omega)
  have e1 : o + k * 2 + j * 2 = o + (k + j) * 2 := by omega
  rw [e1]; exact this

/-- Block n holds an attribute. -/
structure AB (w : World) (n : Nat) (x y : ByteArray) : Prop where
  lt : n < w.heap.size
  c0 : w.cell? ⟨n, 0, none⟩ = some (.string x)
  c1 : w.cell? ⟨n, 1, none⟩ = some (.string y)
theorem AB.new (w : World) (x y : ByteArray) (t : TypeId) : AB (w.alloc (.cells #[.string x, .string y] t)) w.heap.size x y :=
  ⟨by simp, by simp, by simp⟩
theorem AB.below {w w' : World} {B n : Nat} {x y : ByteArray} (h : AB w n x y) (hb : Below B w w') (hn : n < B) : AB w' n x y :=
  ⟨Nat.lt_of_lt_of_le h.lt hb.size, (hb.cell (p := ⟨n, 0, none⟩) hn).trans h.c0, (hb.cell (p := ⟨n, 1, none⟩) hn).trans h.c1⟩
theorem AB.alloc {w : World} {n : Nat} {x y : ByteArray} (h : AB w n x y) (o : Obj) : AB (w.alloc o) n x y :=
  h.below ((Below.refl w.heap.size w).alloc (Nat.le_refl _) o) h.lt
theorem AB.at_ {w : World} {n n' : Nat} {x y : ByteArray} (h : AB w n x y) (e : n = n') : AB w n' x y := e ▸ h
theorem AB.drewN {w : World} {n : Nat} {x y : ByteArray} (h : AB w n x y) (k : Nat) : AB (w.drewN k) n x y := ⟨h.lt, h.c0, h.c1⟩
theorem AB.grown {w w' : World} {n : Nat} {x y : ByteArray} {row : Option Nat} (h : AB w n x y) (hg : w.grownBy w' row) (hn : some n ≠ row) : AB w' n x y := by
  have hb := hg.block n h.lt hn
  exact ⟨Nat.lt_of_lt_of_le h.lt hg.size, (World.cell?_of_block (a := ⟨n, 0, none⟩) hb).trans h.c0, (World.cell?_of_block (a := ⟨n, 1, none⟩) hb).trans h.c1⟩


def Attr.cells (e : Attr) : List Value := [.string e.n, .string e.v]
def flatA (es : List Attr) : List Value := es.flatMap Attr.cells
theorem flatA_cons (e : Attr) (es : List Attr) : flatA (e :: es) = .string e.n :: .string e.v :: flatA es := by
  unfold flatA Attr.cells; rw [List.flatMap_cons]; rfl
theorem flatA_append (xs ys : List Attr) : flatA (xs ++ ys) = flatA xs ++ flatA ys := by unfold flatA; rw [List.flatMap_append]
theorem flatA_len : ∀ es : List Attr, (flatA es).length = es.length * 2
  | [] => rfl
  | e :: es => by rw [flatA_cons]; simp only [List.length_cons]; rw [flatA_len es]; omega
theorem flatA_one : ∀ (es : List Attr), ∀ u ∈ flatA es, u.oneCell' = true
  | [], u, h => by simp [flatA] at h
  | e :: es, u, h => by
    rw [flatA_cons] at h
    rcases List.mem_cons.1 h with rfl | h
    · rfl
    · rcases List.mem_cons.1 h with rfl | h
      · rfl
      · exact flatA_one es u h
theorem flatA_get : ∀ (es : List Attr) (j : Nat), j < es.length →
    (flatA es)[j * 2]? = some (.string (es.getD j A0).n) ∧ (flatA es)[j * 2 + 1]? = some (.string (es.getD j A0).v)
  | [], j, h => absurd h (by simp)
  | e :: es, 0, _ => by rw [flatA_cons]; simp
  | e :: es, j + 1, h => by
    have ih := flatA_get es j (by simpa using h)
    have e1 : (j + 1) * 2 = j * 2 + 1 + 1 := by omega
    rw [flatA_cons, e1]
    simpa using ih

theorem ats_own {w : World} {base n : Nat} {v : Value} {es : List Attr} (h : w.ownsRow base 82 2 v n (flatA es)) (hf : ∀ e ∈ es, e.fits) (hl : es.length ≤ 4398046511104) : Ats w w.heap.size v es := by
  have hn : n = es.length := by have := h.1; rw [flatA_len] at this; omega
  subst hn
  rcases h.2 with ⟨hv, h0⟩ | ⟨g, cap, cur, hv, _, hg, hnc, _, _, _⟩
  · have : es = [] := List.eq_nil_of_length_eq_zero h0
    subst this
    rw [hv]; exact Ats.none_ _ _
  · have hlt : g < w.heap.size := by
      rcases Nat.lt_or_ge g w.heap.size with hlt | hge
      · exact hlt
      · rw [Array.getElem?_eq_none hge] at hg; cases hg
    rw [hv] at h
    refine ⟨_, cap, hv, hnc, hl, hf, fun _ => ⟨g, 0, rfl, hlt, fun j hj => ?_⟩⟩
    obtain ⟨h1, h2⟩ := flatA_get es j hj
    rw [← h.cellAt (j * 2) (by omega)] at h1
    rw [← h.cellAt (j * 2 + 1) (by omega)] at h2
    simp only [Nat.zero_add]
    exact ⟨h1, h2⟩

theorem own_attr (w : World) (base n : Nat) (hn : n = w.heap.size) (hb : base ≤ w.heap.size) (e : Attr) : (w.alloc (.cells #[.string e.n, .string e.v] 82)).ownsRow base 82 2 (.slice (some ⟨n, 0, none⟩) 1 1) 1 (flatA [e]) := by
  subst hn
  refine ⟨rfl, .inr ⟨_, 1, _, rfl, hb, heap_alloc_new w _, by omega, by simp [maxLen], rfl, rfl⟩⟩

theorem attr_info : (Try.prog.info? 82).map (fun i => (i.zero, i.size, i.bytes)) = some (some (.agg #[.string ByteArray.empty, .string ByteArray.empty]), 2, 32) := by kernel_rfl

/-- append(s, x...): s a row of the call's own (or nil), x any list of attributes. -/
theorem wpList_append_attrs {w : World} {ops : Array Oper} {rest : List Oper} {o : Oper} {a : Act} {Q : Exit → Act → World → Prop} (hgd : o.guard = none) (s x : Operand)
    (ho : o.op = .call { callee := .builtin .append, args := #[s, x], argTypes := #[45, 45] })
    (base : Nat) (v : Value) (n : Nat) (xs : List Attr) (hs : a.eval s = v) (hown : w.ownsRow base 82 2 v n (flatA xs))
    (B : Nat) (u : Value) (es : List Attr) (hx : a.eval x = u) (hA : Ats w B u es)
    (hbytes : (n + es.length) * 32 ≤ 140737488355328) (hbase : base ≤ w.heap.size)
    (h : ∀ v' w', w'.ownsRow base 82 2 v' (n + es.length) (flatA (xs ++ es)) → w.grownBy w' v.ownBlock → wpList Try.prog ops Q rest (a.put o.dst v') w') : wpList Try.prog ops Q (o :: rest) a w := by
  obtain ⟨i0, hi, hz0, hz1, hz2⟩ := info_parts attr_info
  obtain ⟨ad, c, rfl, hc, hl, hf, hcell⟩ := hA
  by_cases h0 : es.length = 0
  · have he : es = [] := List.eq_nil_of_length_eq_zero h0
    subst he
    cases ad with
    | none =>
      refine wpList_plain hgd fun K hK => ?_
      have hrun : (Builtin.append_ #[45, 45] o.type #[v, .slice none 0 c]).run Try.prog w = .ok v w := by
        rcases hown.2 with ⟨rfl, _⟩ | ⟨g, cap, cur, rfl, _, _, hnc, _⟩
        · simp [Builtin.append_, run_underlying Try.underlying45, sizeOf, typeInfo, hi, Builtin.lenOf, Builtin.firstCells]
        · simp [Builtin.append_, run_underlying Try.underlying45, sizeOf, typeInfo, hi, Builtin.lenOf, Builtin.firstCells, hnc, storeCells]
      unfold Oper.wp
      simp [execOp, ho, resolve, invoke, builtin, hs, hx, hrun, Result.andThen]
      exact hK _ _ (h v w (by simpa using hown) (World.grownBy.refl w _))
    | some ad =>
      refine wpList_append_own w hgd s x 45 ho base 82 i0 _ 2 32 Try.underlying45 hi hz0 hz1 hz2 rfl (by omega) v n (flatA xs) hs hown ad _ c (flatA []) hx rfl (by intro j u hu; simp [flatA] at hu) (flatA_one _) (by unfold maxLen; omega) (by omega) hbase fun v' w' h1 h2 _ => h v' w' (by rw [flatA_append]; exact h1) h2
  · obtain ⟨b, of, rfl, hB, hj⟩ := hcell (by omega)
    refine wpList_append_own w hgd s x 45 ho base 82 i0 _ 2 32 Try.underlying45 hi hz0 hz1 hz2 rfl (by omega) v n (flatA xs) hs hown ⟨b, of, none⟩ _ c (flatA es) hx (flatA_len es) (by
      intro j u hu
      have hjl : j < es.length * 2 := by
        rw [← flatA_len es]
        exact (List.getElem?_eq_some_iff.1 hu).1
      obtain ⟨q, hq, hr⟩ : ∃ q, q < es.length ∧ (j = q * 2 ∨ j = q * 2 + 1) := ⟨j / 2, by omega, by omega⟩
      obtain ⟨h1, h2⟩ := flatA_get es q hq
      obtain ⟨g1, g2⟩ := hj q hq
      have hadd : (⟨b, of, none⟩ : Addr).add j = ⟨b, of + j, none⟩ := by unfold Addr.add; split <;> simp_all
      rw [hadd]
      rcases hr with rfl | rfl
      · rw [h1] at hu; rw [← Option.some.inj hu]; exact g1
      · rw [h2] at hu; rw [← Option.some.inj hu]; exact g2) (flatA_one _) (by unfold maxLen; omega) (by omega) hbase fun v' w' h1 h2 _ => h v' w' (by rw [flatA_append]; exact h1) h2

end Go.Proofs.Ytndhhofidkaomaa
