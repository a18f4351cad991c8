/- What a law of package memfs or of its neighbours needs, at the translation of this seat.
   Condition: as each theorem states; this text: Float, FloatUse, FloatMf, FloatMf2. -/
import Derived.Test.YtmbbmmnpkdfecaaGreatDoorMb1
import Derived.OrdersHeld
import Derived.Deep.RegionHeld
import Derived.Test.YtmbbmmnpkdfecaaGreatDoorMb7
import Derived.Test.YtmbbmmnpkdfecaaGreatDoorMb24

set_option linter.all false

/- Allocations of a drawn region may come up at any time between its other operations: one walk in the order of the text, in worlds that may grow between its steps, serves for all orders. Conditions: as each theorem states. -/

set_option linter.all false
namespace Go.Proofs.YtmbbmmnpkdfecaaGreatDoor
open Go.RowKit

/-- w' is w with new blocks. -/
def Gr (w w' : World) : Prop := Below w.heap.size w w'
theorem Gr.refl (w : World) : Gr w w := Below.refl _ _
theorem Gr.trans {a b c : World} (h : Gr a b) (k : Gr b c) : Gr a c := Below.trans h (k.mono h.size)
theorem Gr.alloc (w : World) (o : Obj) : Gr w (w.alloc o) := (Below.refl _ _).alloc (Nat.le_refl _) o
theorem Gr.kept {w w' : World} (h : Gr w w') {b : Nat} {o : Obj} (hb : w.heap[b]? = some o) : w'.heap[b]? = some o := by
  rw [h.block b (Array.getElem?_eq_some_iff.1 hb).1]; exact hb

def ptr (b : Nat) : Value := .pointer (some ⟨b, 0, none⟩)
/-- An allocation: its number, its slot, what it lays. -/
abbrev Alc := Nat × Tmp × Obj
def inD (D : List Alc) (j : Nat) : Bool := D.any fun e => e.1 == j
def setD (D : List Alc) (l : Array Bool) : Array Bool := D.foldl (fun l e => l.setIfInBounds e.1 true) l
def putD (b : Nat → Nat) (D : List Alc) (a : Act) : Act := D.foldl (fun a e => a.put (some e.2.1) (ptr (b e.1))) a
theorem inD_iff {D : List Alc} {j : Nat} : inD D j = true ↔ ∃ e ∈ D, e.1 = j := by simp [inD]

section
variable {P : Program} {ops : Array Oper} {Q : Exit → Act → World → Prop} {md : Region.Mode} {S : World → Prop} {D : List Alc} {Z Ps : List Nat}

/-- What may come up, the allocations left out. -/
def readyF (md : Region.Mode) (ops : Array Oper) (D : List Alc) (listed : Array Bool) : List Nat := (Region.ready md ops listed).filter fun j => !inD D j
theorem mem_readyF {j : Nat} {listed : Array Bool} : j ∈ readyF md ops D listed ↔ j ∈ Region.ready md ops listed ∧ inD D j = false := by
  simp [readyF]

/-- The walk of all but the allocations, in worlds that may grow ahead of each step; G: the blocks that the walk's own steps have laid. -/
def wpF (P : Program) (md : Region.Mode) (ops : Array Oper) (Q : Exit → Act → World → Prop) (S : World → Prop) (D : List Alc) (Ps : List Nat) (fin : (Nat → Prop) → Array Bool → Act → World → Prop) : Nat → (Nat → Prop) → Array Bool → Act → World → Prop
  | 0, G, listed, a, w => readyF md ops D listed = [] ∧ ∀ w', Gr w w' → fin G listed a w'
  | n + 1, G, listed, a, w => (readyF md ops D listed = [] → ∀ w', Gr w w' → fin G listed a w') ∧ ∀ j ∈ readyF md ops D listed,
      (j ∈ Ps → ∃ o v, ops[j]? = some o ∧ YieldsIf P ops S o v a ∧ wpF P md ops Q S D Ps fin n G (listed.setIfInBounds j true) (a.put o.dst v) w) ∧
      (j ∉ Ps → ∀ w', Gr w w' → wpOp P ops Q j (fun a' w'' => Gr w' w'' ∧ wpF P md ops Q S D Ps fin n (fun k => G k ∨ (w'.heap.size ≤ k ∧ k < w''.heap.size)) (listed.setIfInBounds j true) a' w'') a w')

theorem wpF_grow {fin : (Nat → Prop) → Array Bool → Act → World → Prop} : ∀ (n : Nat) {G : Nat → Prop} {listed : Array Bool} {a : Act} {w w1 : World}, Gr w w1 → wpF P md ops Q S D Ps fin n G listed a w → wpF P md ops Q S D Ps fin n G listed a w1
  | 0, _, _, _, _, _, hg, h => ⟨h.1, fun w' h' => h.2 w' (hg.trans h')⟩
  | n + 1, _, _, _, _, _, hg, h => ⟨fun h0 w' h' => h.1 h0 w' (hg.trans h'), fun j hj =>
      ⟨fun hp => by obtain ⟨o, v, ho, hy, hw⟩ := (h.2 j hj).1 hp; exact ⟨o, v, ho, hy, wpF_grow n hg hw⟩, fun hp w' h' => (h.2 j hj).2 hp w' (hg.trans h')⟩⟩

theorem wpAnyH_succ : ∀ (f : Nat) {listed : Array Bool} {a : Act} {w : World}, wpAnyH P md ops Q S f listed a w → wpAnyH P md ops Q S (f + 1) listed a w
  | 0, _, _, _, h => ⟨fun _ => h.2, fun i hi => by rw [h.1] at hi; cases hi⟩
  | f + 1, _, _, _, h => ⟨h.1, fun i hi => wpOp_mono (fun _ _ hh => ⟨hh.1, wpAnyH_succ f hh.2⟩) (h.2 i hi)⟩
theorem wpAnyH_le {f g : Nat} (hfg : f ≤ g) {listed : Array Bool} {a : Act} {w : World} (h : wpAnyH P md ops Q S f listed a w) : wpAnyH P md ops Q S g listed a w := by
  induction g with
  | zero => obtain rfl : f = 0 := by omega
            exact h
  | succ g ih =>
    rcases Nat.lt_or_ge f (g + 1) with h1 | h1
    · exact wpAnyH_succ g (ih (by omega))
    · obtain rfl : f = g + 1 := by omega
      exact h

/-- An operation runs alike in two states that differ in what it does not look at. -/
theorem wpOp_alike {j : Nat} {o : Oper} (ho : ops[j]? = some o) (hs : ∀ cs b, o.op ≠ .select cs b) {d : Tmp} {v : Value} (hd : d ∉ o.looksAt ops) (hne : o.dst ≠ some d)
    (hQ : ∀ c a w, Q (.panic c) a w → Q (.panic c) (a.put (some d) v) w) {K K' : Act → World → Prop} {a : Act} {w : World}
    (hK : ∀ a' w', K a' w' → K' (a'.put (some d) v) w') (h : wpOp P ops Q j K a w) : wpOp P ops Q j K' (a.put (some d) v) w := by
  have e1 : execOp (a.put (some d) v).eval o = execOp a.eval o := execOp_put (ops := ops) o hs a (some d) v (fun d' e => by injection e with e; subst e; exact hd)
  have e2 : Region.wanted o (yielded ops (a.put (some d) v).tmps) = Region.wanted o (yielded ops a.tmps) := wanted_put o a (some d) v (fun d' e => by injection e with e; subst e; exact hd)
  have pc : ∀ (a : Act) (u : Value), (a.put (some d) v).put o.dst u = (a.put o.dst u).put (some d) v := fun a u => Act.put_comm a v u (fun d' e => by injection e with e; subst e; exact hne)
  unfold wpOp at *
  simp only [ho] at *
  rw [e2]
  split
  · rename_i hw
    simp only [hw, if_true] at h
    rcases h with h | ⟨ha, hl⟩
    · refine .inl ?_
      unfold Oper.wp at *
      rw [e1]
      generalize (execOp a.eval o).run P w = r at *
      cases r with
      | ok n w' =>
        cases n <;> simp only [Oper.upon] at h ⊢
        case value u => rw [pc]; exact hK _ _ h
        case skip => rw [pc]; exact hK _ _ h
        case defer df => rw [Act.put_defers, pc]; exact hK _ _ h
        case enter f args =>
          refine Calls.mono h fun e w'' he => ?_
          cases e with
          | returned u => show K' _ _; rw [pc]; exact hK _ _ he
          | panicked c => exact hQ _ _ _ he
          | outgrown => exact he
        case row row args => exact Rows.mono h fun u w'' he => by rw [pc]; exact hK _ _ he
      | halt x w' =>
        cases x <;> simp only [Oper.upon] at h ⊢
        case panic u => exact hQ _ _ _ h
    · refine .inr ⟨?_, hl⟩
      unfold Oper.asks at *
      rw [e1]; exact ha
  · rename_i hw
    simp only [hw] at h
    rw [pc]; exact hK _ _ h

/-- The same for a row of allocations. -/
theorem wpOp_putD {j : Nat} {o : Oper} (ho : ops[j]? = some o) (hs : ∀ cs b, o.op ≠ .select cs b) (b : Nat → Nat)
    (hQ : ∀ c a w d v, Q (.panic c) a w → Q (.panic c) (a.put d v) w) :
    ∀ (E : List Alc), (∀ e ∈ E, e.2.1 ∉ o.looksAt ops ∧ o.dst ≠ some e.2.1) → ∀ {a : Act} {w : World} {K K' : Act → World → Prop}, (∀ a' w', K a' w' → K' (putD b E a') w') → wpOp P ops Q j K a w → wpOp P ops Q j K' (putD b E a) w := by
  intro E
  induction E with
  | nil => intro _ a w K K' hK h; exact wpOp_mono (fun a' w' => hK a' w') h
  | cons e E ih =>
    intro hE a w K K' hK h
    refine ih (fun x hx => hE x (List.mem_cons_of_mem _ hx)) (K := fun a' w' => ∃ a0, a' = a0.put (some e.2.1) (ptr (b e.1)) ∧ K a0 w') ?_ ?_
    · rintro _ w' ⟨a0, rfl, hk⟩
      exact hK a0 w' hk
    · have he := hE e (List.mem_cons_self ..)
      exact wpOp_alike ho hs he.1 he.2 (fun c a w => hQ c a w _ _) (fun a' w' hk => ⟨a', rfl, hk⟩) h

theorem putD_snoc (b : Nat → Nat) (E : List Alc) (e : Alc) (a : Act) : putD b (E ++ [e]) a = (putD b E a).put (some e.2.1) (ptr (b e.1)) := by
  unfold putD; rw [List.foldl_append]; rfl
theorem setD_snoc (E : List Alc) (e : Alc) (l : Array Bool) : setD (E ++ [e]) l = (setD E l).setIfInBounds e.1 true := by
  unfold setD; rw [List.foldl_append]; rfl
theorem putD_congr {b b' : Nat → Nat} : ∀ {E : List Alc}, (∀ e ∈ E, b e.1 = b' e.1) → ∀ a, putD b E a = putD b' E a
  | [], _, _ => rfl
  | e :: E, h, a => by
    show putD b E (a.put (some e.2.1) (ptr (b e.1))) = putD b' E (a.put (some e.2.1) (ptr (b' e.1)))
    rw [h e (List.mem_cons_self ..)]
    exact putD_congr (fun x hx => h x (List.mem_cons_of_mem _ hx)) _
theorem putD_put (b : Nat → Nat) : ∀ (E : List Alc) {d : Option Tmp}, (∀ e ∈ E, d ≠ some e.2.1) → ∀ (v : Value) (a : Act), putD b E (a.put d v) = (putD b E a).put d v
  | [], _, _, _, _ => rfl
  | e :: E, d, h, v, a => by
    show putD b E ((a.put d v).put (some e.2.1) _) = _
    rw [Act.put_comm a v (ptr (b e.1)) (fun d' hd he => h e (List.mem_cons_self ..) (hd.trans he.symm))]
    exact putD_put b E (fun x hx => h x (List.mem_cons_of_mem _ hx)) v _
theorem setD_set : ∀ (E : List Alc) (l : Array Bool) (j : Nat), inD E j = false → setD E (l.setIfInBounds j true) = (setD E l).setIfInBounds j true
  | [], _, _, _ => rfl
  | e :: E, l, j, h => by
    have h1 : e.1 ≠ j := fun he => by rw [inD, List.any_cons, he, beq_self_eq_true, Bool.true_or] at h; cases h
    have h2 : inD E j = false := by rw [inD, List.any_cons, Bool.or_eq_false_iff] at h; exact h.2
    show setD E ((l.setIfInBounds j true).setIfInBounds e.1 true) = _
    rw [Array.setIfInBounds_comm _ _ h1.symm]
    exact setD_set E _ j h2
theorem setD_size : ∀ (E : List Alc) (l : Array Bool), (setD E l).size = l.size
  | [], _ => rfl
  | e :: E, l => by
    show (setD E (l.setIfInBounds e.1 true)).size = _
    rw [setD_size E]; simp
theorem setD_getD : ∀ (E : List Alc) (l : Array Bool) (j : Nat) (x : Bool), inD E j = false → (setD E l).getD j x = l.getD j x
  | [], _, _, _, _ => rfl
  | e :: E, l, j, x, h => by
    have h1 : e.1 ≠ j := fun he => by rw [inD, List.any_cons, he, beq_self_eq_true, Bool.true_or] at h; cases h
    have h2 : inD E j = false := by rw [inD, List.any_cons, Bool.or_eq_false_iff] at h; exact h.2
    show (setD E (l.setIfInBounds e.1 true)).getD j x = _
    rw [setD_getD E _ j x h2]
    exact getD_set_ne x h1
theorem setD_true : ∀ (E : List Alc) (l : Array Bool) (j : Nat), inD E j = true → j < l.size → (setD E l).getD j true = true
  | [], _, _, h, _ => by cases h
  | e :: E, l, j, h, hj => by
    show (setD E (l.setIfInBounds e.1 true)).getD j true = true
    by_cases h2 : inD E j = true
    · exact setD_true E _ j h2 (by simpa using hj)
    · have h3 : inD E j = false := by simpa using h2
      rw [setD_getD E _ j true h3]
      have he : e.1 = j := by
        rw [inD, List.any_cons, Bool.or_eq_true] at h
        rcases h with h | h
        · simpa using h
        · exact absurd h h2
      subst he
      simp [hj]
theorem inD_perm {E E' : List Alc} (h : E.Perm E') (j : Nat) : inD E j = inD E' j := by
  rw [Bool.eq_iff_iff, inD_iff, inD_iff]
  exact ⟨fun ⟨e, he, hj⟩ => ⟨e, h.mem_iff.1 he, hj⟩, fun ⟨e, he, hj⟩ => ⟨e, h.mem_iff.2 he, hj⟩⟩
theorem putD_perm {E E' : List Alc} (h : E.Perm E') (hn : E.Pairwise fun e e' => e.1 ≠ e'.1 ∧ e.2.1 ≠ e'.2.1) (b : Nat → Nat) (a : Act) : putD b E a = putD b E' a := by
  induction h generalizing a with
  | nil => rfl
  | cons x _ ih => exact ih hn.of_cons _
  | swap x y l =>
    have hxy : y.2.1 ≠ x.2.1 := ((List.pairwise_cons.1 hn).1 x (List.mem_cons_self ..)).2
    show putD b l ((a.put (some y.2.1) _).put (some x.2.1) _) = putD b l ((a.put (some x.2.1) _).put (some y.2.1) _)
    rw [Act.put_comm a (ptr (b y.1)) (ptr (b x.1)) (fun d hd he => hxy (Option.some.inj (hd.trans he.symm)))]
  | trans h1 h2 ih1 ih2 =>
    rw [ih1 hn, ih2 ((h1.pairwise_iff (fun h => ⟨h.1.symm, h.2.symm⟩)).1 hn)]
theorem setD_perm {E E' : List Alc} (h : E.Perm E') (hn : E.Pairwise fun e e' => e.1 ≠ e'.1 ∧ e.2.1 ≠ e'.2.1) (l : Array Bool) : setD E l = setD E' l := by
  induction h generalizing l with
  | nil => rfl
  | cons x _ ih => exact ih hn.of_cons _
  | swap x y l' =>
    have hxy : y.1 ≠ x.1 := ((List.pairwise_cons.1 hn).1 x (List.mem_cons_self ..)).1
    show setD l' ((l.setIfInBounds y.1 true).setIfInBounds x.1 true) = setD l' ((l.setIfInBounds x.1 true).setIfInBounds y.1 true)
    rw [Array.setIfInBounds_comm _ _ hxy]
  | trans h1 h2 ih1 ih2 =>
    rw [ih1 hn, ih2 ((h1.pairwise_iff (fun h => ⟨h.1.symm, h.2.symm⟩)).1 hn)]

/-- The row of conditions, for the kernel to check: D the allocations, Z what waits for all, Ps what yields at once and need not be waited for. -/
def floatB (md : Region.Mode) (ops : Array Oper) (D : List Alc) (Z Ps : List Nat) : Bool :=
  Region.noSelect ops && !D.isEmpty &&
  (D.all fun e => match ops[e.1]? with
    | none => false
    | some o => (o.dst == some e.2.1) && o.guard.isNone && (o.after.all fun x => !Region.binds md x) && !Z.contains e.1 && !Ps.contains e.1) &&
  ((List.range ops.size).all fun j => match ops[j]? with
    | none => true
    | some o => inD D j ||
      (if Z.contains j then (List.range ops.size).all fun k => Z.contains k || Ps.contains k || o.after.any fun x => Region.binds md x && x.on == k
       else (D.all fun e => !(o.looksAt ops).contains e.2.1 && (o.dst != some e.2.1)) && (o.after.all fun x => !Region.binds md x || !inD D x.on) &&
        (Ps.contains j || o.after.all fun x => !Region.binds md x || !Ps.contains x.on))) &&
  (Ps.all fun p => !Z.contains p && match ops[p]? with
    | none => false
    | some o => (List.range ops.size).all fun j => j == p || inD D j || (o.after.any fun x => Region.binds md x && x.on == j) || match ops[j]? with
      | none => true
      | some oj => (oj.after.any fun x => Region.binds md x && x.on == p) || o.apart ops oj)

structure FloatOK (md : Region.Mode) (ops : Array Oper) (D : List Alc) (Z Ps : List Nat) : Prop where
  sel : Region.noSelect ops = true
  ne : ∃ e, e ∈ D
  d : ∀ e ∈ D, ∃ o, ops[e.1]? = some o ∧ o.dst = some e.2.1 ∧ o.guard = none ∧ (∀ x ∈ o.after, Region.binds md x = false) ∧ e.1 ∉ Z ∧ e.1 ∉ Ps
  z : ∀ j o, ops[j]? = some o → j ∈ Z → inD D j = false → ∀ k, k < ops.size → k ∉ Z → k ∉ Ps → ∃ x ∈ o.after, Region.binds md x = true ∧ x.on = k
  a : ∀ j o, ops[j]? = some o → j ∉ Z → inD D j = false → (∀ e ∈ D, e.2.1 ∉ o.looksAt ops ∧ o.dst ≠ some e.2.1) ∧ (∀ x ∈ o.after, Region.binds md x = true → inD D x.on = false) ∧ (j ∉ Ps → ∀ x ∈ o.after, Region.binds md x = true → x.on ∉ Ps)
  p : ∀ p ∈ Ps, p ∉ Z ∧ ∃ o, ops[p]? = some o ∧ ∀ j oj, ops[j]? = some oj → j ≠ p → inD D j = false → (∀ x ∈ o.after, Region.binds md x = true → x.on ≠ j) → (∀ x ∈ oj.after, Region.binds md x = true → x.on ≠ p) → o.apart ops oj = true

theorem floatOK_of (h : floatB md ops D Z Ps = true) : FloatOK md ops D Z Ps := by
  simp only [floatB, Bool.and_eq_true] at h
  obtain ⟨⟨⟨⟨h1, h2⟩, h3⟩, h4⟩, h5⟩ := h
  refine ⟨h1, ?_, ?_, ?_, ?_, ?_⟩
  · cases D with
    | nil => simp at h2
    | cons e _ => exact ⟨e, List.mem_cons_self ..⟩
  · intro e he
    have := List.all_eq_true.1 h3 e he
    cases ho : ops[e.1]? with
    | none => rw [ho] at this; cases this
    | some o =>
      rw [ho] at this
      simp only [Bool.and_eq_true, Bool.not_eq_true'] at this
      obtain ⟨⟨⟨⟨k1, k2⟩, k3⟩, k4⟩, k5⟩ := this
      refine ⟨o, rfl, by simpa using k1, by simpa using k2, ?_, by simpa using k4, by simpa using k5⟩
      intro x hx
      have := Array.all_eq_true_iff_forall_mem.1 k3 x hx
      simpa using this
  · intro j o ho hz hd k hk hkz hkp
    have hj : j < ops.size := (Array.getElem?_eq_some_iff.1 ho).1
    have := List.all_eq_true.1 h4 j (List.mem_range.2 hj)
    rw [ho] at this
    have hz' : Z.contains j = true := by simpa using hz
    simp only [hd, Bool.false_or, hz', if_true] at this
    have := List.all_eq_true.1 this k (List.mem_range.2 hk)
    simp only [Bool.or_eq_true, Array.any_eq_true] at this
    rcases this with (h6 | h6) | ⟨i, hi, h6⟩
    · exact absurd (by simpa using h6) hkz
    · exact absurd (by simpa using h6) hkp
    · rw [Bool.and_eq_true] at h6
      exact ⟨_, Array.getElem_mem hi, h6.1, by simpa using h6.2⟩
  · intro j o ho hz hd
    have hj : j < ops.size := (Array.getElem?_eq_some_iff.1 ho).1
    have := List.all_eq_true.1 h4 j (List.mem_range.2 hj)
    rw [ho] at this
    have hz' : Z.contains j = false := by simpa using hz
    simp only [hd, Bool.false_or, hz', Bool.false_eq_true, if_false, Bool.and_eq_true] at this
    obtain ⟨⟨k1, k2⟩, k3⟩ := this
    refine ⟨fun e he => ?_, fun x hx hb => ?_, fun hp x hx hb => ?_⟩
    · have := List.all_eq_true.1 k1 e he
      simp only [Bool.and_eq_true, Bool.not_eq_true', bne_iff_ne] at this
      exact ⟨by simpa using this.1, this.2⟩
    · have := Array.all_eq_true_iff_forall_mem.1 k2 x hx
      rw [hb] at this; simpa using this
    · have hp' : Ps.contains j = false := by simpa using hp
      rw [hp', Bool.false_or] at k3
      have := Array.all_eq_true_iff_forall_mem.1 k3 x hx
      rw [hb] at this; simpa using this
  · intro p hp
    have := List.all_eq_true.1 h5 p hp
    rw [Bool.and_eq_true] at this
    obtain ⟨k1, k2⟩ := this
    refine ⟨by simpa using k1, ?_⟩
    cases ho : ops[p]? with
    | none => rw [ho] at k2; cases k2
    | some o =>
      rw [ho] at k2
      refine ⟨o, rfl, fun j oj hoj hne hd ha hb => ?_⟩
      have hj : j < ops.size := (Array.getElem?_eq_some_iff.1 hoj).1
      have := List.all_eq_true.1 k2 j (List.mem_range.2 hj)
      rw [hoj, hd] at this
      have hne' : (j == p) = false := by simpa using hne
      simp only [hne', Bool.false_or, Bool.or_eq_true, Array.any_eq_true] at this
      rcases this with ⟨i, hi, h6⟩ | ⟨i, hi, h6⟩ | h6
      · rw [Bool.and_eq_true] at h6
        exact absurd (by simpa using h6.2) (ha _ (Array.getElem_mem hi) h6.1)
      · rw [Bool.and_eq_true] at h6
        exact absurd (by simpa using h6.2) (hb _ (Array.getElem_mem hi) h6.1)
      · exact h6

theorem GNone (G : Nat → Prop) (w : World) : G = fun k => G k ∨ (w.heap.size ≤ k ∧ k < w.heap.size) := by
  funext k; apply propext; exact ⟨fun h => .inl h, fun h => h.elim id (fun h => by omega)⟩

theorem readyF_mono {i j : Nat} {listed : Array Bool} (hj : j ∈ readyF md ops D listed) (hne : j ≠ i) : j ∈ readyF md ops D (listed.setIfInBounds i true) := by
  rw [mem_readyF] at *
  exact ⟨ready_mono hj.1 hne, hj.2⟩

/-- An operation that yields its value in every world that meets S may be taken first. -/
theorem wpF_first {i : Nat} {oi : Oper} {v : Value} (hi : ops[i]? = some oi) (hsel : ∀ (j : Nat) (o : Oper) cs b, ops[j]? = some o → o.op ≠ .select cs b)
    (hQ : ∀ c a w, Q (.panic c) (a.put oi.dst v) w → Q (.panic c) a w) (hSm : ∀ y z, S y → Gr y z → S z) {fin : (Nat → Prop) → Array Bool → Act → World → Prop} :
    ∀ (n : Nat) (G : Nat → Prop) (listed : Array Bool) (a : Act) (w : World),
      (∀ j oj, ops[j]? = some oj → j ≠ i → listed.getD j true = false → (∀ e ∈ oj.after, Region.binds md e = true → e.on ≠ i) → oi.apart ops oj = true) →
      i ∈ readyF md ops D listed → YieldsIf P ops S oi v a → S w →
      (∀ k, G k → k < w.heap.size) → wpF P md ops Q S D Ps fin n G (listed.setIfInBounds i true) (a.put oi.dst v) w → wpF P md ops Q S D Ps fin (n + 1) G listed a w := by
  intro n
  induction n with
  | zero =>
    intro G listed a w _ hr hy hS HG H
    refine ⟨fun h => (by rw [h] at hr; cases hr), fun j hj => ?_⟩
    by_cases hji : j = i
    · subst hji
      exact ⟨fun _ => ⟨oi, v, hi, hy, H⟩, fun _ w' hg => hy.wpOp hi (hSm _ _ hS hg) ⟨Gr.refl _, GNone _ w' ▸ wpF_grow 0 hg H⟩⟩
    · have := readyF_mono hj hji
      rw [H.1] at this
      cases this
  | succ n ih =>
    intro G listed a w hfree hr hy hS HG H
    refine ⟨fun h => (by rw [h] at hr; cases hr), fun j hj => ?_⟩
    by_cases hji : j = i
    · subst hji
      exact ⟨fun _ => ⟨oi, v, hi, hy, H⟩, fun _ w' hg => hy.wpOp hi (hSm _ _ hS hg) ⟨Gr.refl _, GNone _ w' ▸ wpF_grow (n + 1) hg H⟩⟩
    · have h1 := H.2 j (readyF_mono hj hji)
      obtain ⟨hjr, hjd⟩ := mem_readyF.1 hj
      obtain ⟨hjun, oj, hoj, hall⟩ := mem_ready.1 hjr
      have hnot : ∀ e ∈ oj.after, Region.binds md e = true → e.on ≠ i := fun e he hb heq => by
        have h1 := hall e he hb
        have h0 := (mem_ready.1 (mem_readyF.1 hr).1).1
        rw [heq] at h1
        rcases Nat.lt_or_ge i listed.size with h' | h'
        · simp [h'] at h0 h1; rw [h0] at h1; cases h1
        · simp [Array.getElem?_eq_none h'] at h1
      have hap := hfree j oj hoj hji hjun hnot
      obtain ⟨q1, q2, q3⟩ := Oper.apart_spec hap
      have hfree' : ∀ k ok, ops[k]? = some ok → k ≠ i → (listed.setIfInBounds j true).getD k true = false →
          (∀ e ∈ ok.after, Region.binds md e = true → e.on ≠ i) → oi.apart ops ok = true := fun k ok hk hki hun hno => by
        refine hfree k ok hk hki ?_ hno
        by_cases hjk : j = k
        · subst hjk; exact hjun
        · rw [getD_set_ne true hjk] at hun; exact hun
      have hri := readyF_mono hr (Ne.symm hji)
      refine ⟨fun hp => ?_, fun hp w' hg => ?_⟩
      · obtain ⟨o, v', ho, hy', H'⟩ := h1.1 hp
        obtain rfl : oj = o := by rw [hoj] at ho; injection ho
        have hyj : YieldsIf P ops S oj v' a := (hy'.of_same (execOp_put (ops := ops) oj (fun cs b => hsel j oj cs b hoj) a oi.dst v q1).symm (wanted_put oj a oi.dst v q1).symm)
        refine ⟨oj, v', hoj, hyj, ih _ _ _ _ hfree' hri (hy.of_same (execOp_put (ops := ops) oi (fun cs b => hsel i oi cs b hi) a oj.dst v' q3) (wanted_put oi a oj.dst v' q3)) hS HG ?_⟩
        rw [Array.setIfInBounds_comm _ _ hji, Act.put_comm a v' v (fun d hd he => q2 d he hd)]
        exact H'
      · have h2 := wpOp_putIf hoj hap (fun cs b => hsel i oi cs b hi) (fun cs b => hsel j oj cs b hoj) hQ hy (h1.2 hp w' hg)
        refine wpOp_mono (fun a' w'' h3 => ⟨h3.2.1, ih _ _ _ _ hfree' hri h3.1 (hSm _ _ hS (hg.trans h3.2.1)) (fun k hk => hk.elim (fun hk => Nat.lt_of_lt_of_le (HG k hk) (hg.trans h3.2.1).size) (fun hk => hk.2)) ?_⟩) h2
        rw [Array.setIfInBounds_comm _ _ hji]
        exact h3.2.2

theorem wpF_take {i : Nat} {oi : Oper} {v : Value} {n : Nat} {G : Nat → Prop} {listed : Array Bool} {a : Act} {w : World} {fin : (Nat → Prop) → Array Bool → Act → World → Prop} (hSm : ∀ y z, S y → Gr y z → S z) (hi : ops[i]? = some oi)
    (hs : Region.noSelect ops = true) (hf : Region.free md ops listed i = true) (hr : (readyF md ops D listed).contains i = true)
    (hQ : ∀ c a w, Q (.panic c) (a.put oi.dst v) w → Q (.panic c) a w) (hy : YieldsIf P ops S oi v a) (hS : S w) (hG : ∀ k, G k → k < w.heap.size)
    (h : wpF P md ops Q S D Ps fin n G (listed.setIfInBounds i true) (a.put oi.dst v) w) : wpF P md ops Q S D Ps fin (n + 1) G listed a w :=
  wpF_first hi (Region.noSelect_spec hs) hQ hSm n G listed a w (Region.free_spec hi hf) (by simpa using hr) hy hS hG h

/-- What is owed when all but the allocations and what waits for them has come up. -/
def Fin0 (P : Program) (md : Region.Mode) (ops : Array Oper) (Q : Exit → Act → World → Prop) (S : World → Prop) (D : List Alc) (B0 fz : Nat) (G : Nat → Prop) (listed : Array Bool) (a : Act) (w : World) : Prop :=
  ∀ b : Nat → Nat, (∀ e ∈ D, B0 ≤ b e.1 ∧ w.heap[b e.1]? = some e.2.2 ∧ ¬ G (b e.1)) → (D.Pairwise fun e e' => b e.1 ≠ b e'.1) → S w → wpAnyH P md ops Q S fz (setD D listed) (putD b D a) w

theorem ready_setD {listed : Array Bool} {j : Nat} (hj : j ∈ Region.ready md ops listed) (hd : inD D j = false) : j ∈ Region.ready md ops (setD D listed) := by
  rw [mem_ready] at *
  obtain ⟨h0, o, ho, hall⟩ := hj
  refine ⟨by rw [setD_getD D listed j true hd]; exact h0, o, ho, fun e he hb => ?_⟩
  have h1 := hall e he hb
  by_cases h2 : inD D e.on = true
  · have hlt : e.on < listed.size := by
      rcases Nat.lt_or_ge e.on listed.size with h' | h'
      · exact h'
      · simp [Array.getElem?_eq_none h'] at h1
    have h3 := setD_true D listed e.on h2 hlt
    have hs := setD_size D listed
    simpa [hlt, hs] using h3
  · have h3 : inD D e.on = false := by simpa using h2
    rw [setD_getD D listed e.on false h3]; exact h1

/-- The last stage: the allocations are done, and of the rest only what yields at once is left ahead of what waits. -/
theorem fin_stage (H : FloatOK md ops D Z Ps) (hQ : ∀ c a w d v, Q (.panic c) (a.put d v) w ↔ Q (.panic c) a w) (hSm : ∀ y z, S y → Gr y z → S z) {B0 fz : Nat} {b : Nat → Nat}
    (hpw : D.Pairwise fun e e' => b e.1 ≠ b e'.1) :
    ∀ (n : Nat) (G : Nat → Prop) (listed : Array Bool) (a : Act) (w : World), listed.size = ops.size → (∀ e ∈ D, listed.getD e.1 true = false) → (∀ j ∈ readyF md ops D listed, j ∈ Ps) → S w →
      (∀ e ∈ D, B0 ≤ b e.1 ∧ w.heap[b e.1]? = some e.2.2 ∧ ¬ G (b e.1)) → wpF P md ops Q S D Ps (Fin0 P md ops Q S D B0 fz) n G listed a w → wpAnyH P md ops Q S (n + fz) (setD D listed) (putD b D a) w := by
  intro n
  induction n with
  | zero =>
    intro G listed a w _ _ _ hS hb h
    rw [Nat.zero_add]
    exact h.2 w (Gr.refl w) b hb hpw hS
  | succ n ih =>
    intro G listed a w hsz hun hps hS hb h
    cases hrd : readyF md ops D listed with
    | nil => exact wpAnyH_le (by omega) (h.1 hrd w (Gr.refl w) b hb hpw hS)
    | cons p rest =>
      have hp : p ∈ readyF md ops D listed := by rw [hrd]; exact List.mem_cons_self ..
      have hpP := hps p hp
      obtain ⟨o, v, ho, hy, hw⟩ := (h.2 p hp).1 hpP
      obtain ⟨hpZ, o', ho', hfr⟩ := H.p p hpP
      obtain rfl : o = o' := by rw [ho] at ho'; injection ho'
      obtain ⟨hpr, hpd⟩ := mem_readyF.1 hp
      have ha := H.a p o ho hpZ hpd
      have hplt : p < listed.size := by rw [hsz]; exact (Array.getElem?_eq_some_iff.1 ho).1
      have key := ih G (listed.setIfInBounds p true) (a.put o.dst v) w (by simpa using hsz) (fun e he => by
          rw [getD_set_ne true (fun hpe => by rw [hpe] at hpd; exact absurd (inD_iff.2 ⟨e, he, rfl⟩) (by rw [hpd]; decide))]; exact hun e he)
        (fun j hj => by
          obtain ⟨hjr, hjd⟩ := mem_readyF.1 hj
          obtain ⟨hj0, oj, hoj, hall⟩ := mem_ready.1 hjr
          by_cases hjP : j ∈ Ps
          · exact hjP
          · exfalso
            by_cases hjZ : j ∈ Z
            · obtain ⟨e, he⟩ := H.ne
              obtain ⟨oe, hoe, _, _, _, hez, hep⟩ := H.d e he
              obtain ⟨x, hx, hxb, hxo⟩ := H.z j oj hoj hjZ hjd e.1 (Array.getElem?_eq_some_iff.1 hoe).1 hez hep
              have h1 := hall x hx hxb
              rw [hxo, getD_set_ne false (fun hpe => by rw [hpe] at hpd; exact absurd (inD_iff.2 ⟨e, he, rfl⟩) (by rw [hpd]; decide))] at h1
              have h2 := hun e he
              have h3 : e.1 < listed.size := by rw [hsz]; exact (Array.getElem?_eq_some_iff.1 hoe).1
              simp [h3] at h1 h2
              rw [h1] at h2; cases h2
            · have haj := H.a j oj hoj hjZ hjd
              refine hjP (hps j (mem_readyF.2 ⟨mem_ready.2 ⟨?_, oj, hoj, fun x hx hxb => ?_⟩, hjd⟩))
              · by_cases hjp : p = j
                · subst hjp; exact absurd hpP hjP
                · rwa [getD_set_ne true hjp] at hj0
              · have h1 := hall x hx hxb
                rwa [getD_set_ne false (fun hpe : p = x.on => haj.2.2 hjP x hx hxb (hpe ▸ hpP))] at h1)
        hS hb hw
      rw [setD_set D listed p hpd, putD_put b D (fun e he => (ha.1 e he).2)] at key
      have hf : n + 1 + fz = (n + fz) + 1 := by omega
      rw [hf]
      have hlook : ∀ e ∈ D, e.2.1 ∉ o.looksAt ops := fun e he => (ha.1 e he).1
      have hsame : ∀ (E : List Alc), (∀ e ∈ E, e.2.1 ∉ o.looksAt ops) → ∀ a, execOp (putD b E a).eval o = execOp a.eval o ∧ Region.wanted o (yielded ops (putD b E a).tmps) = Region.wanted o (yielded ops a.tmps) := by
        intro E
        induction E with
        | nil => exact fun _ a => ⟨rfl, rfl⟩
        | cons e E ihE =>
          intro hE a
          have h1 := ihE (fun x hx => hE x (List.mem_cons_of_mem _ hx)) (a.put (some e.2.1) (ptr (b e.1)))
          have he := hE e (List.mem_cons_self ..)
          exact ⟨h1.1.trans (execOp_put (ops := ops) o (fun cs b => Region.noSelect_spec H.sel p o cs b ho) a _ _ (fun d hd => by injection hd with hd; subst hd; exact he)),
            h1.2.trans (wanted_put o a _ _ (fun d hd => by injection hd with hd; subst hd; exact he))⟩
      refine wpAnyH_first ho (Region.noSelect_spec H.sel) (fun c a w h => (hQ c a w _ _).1 h) (n + fz) (setD D listed) (putD b D a) w ?_ (ready_setD hpr hpd) (hy.of_same (hsame D hlook a).1 (hsame D hlook a).2) hS key
      intro j oj hoj hne hjun hno
      have hjlt : j < listed.size := by rw [hsz]; exact (Array.getElem?_eq_some_iff.1 hoj).1
      have hjd : inD D j = false := by
        cases hjd : inD D j with
        | false => rfl
        | true =>
          rw [setD_true D listed j hjd hjlt] at hjun
          cases hjun
      refine hfr j oj hoj hne hjd (fun x hxa hxb hxj => ?_) hno
      rw [setD_getD D listed _ _ hjd] at hjun
      obtain ⟨_, op, hop, hwait⟩ := mem_ready.1 hpr
      obtain rfl : o = op := by rw [ho] at hop; injection hop
      have h1 := hwait x hxa hxb
      rw [hxj] at h1
      simp [hjlt] at h1 hjun
      rw [h1] at hjun; cases hjun

theorem exec_putD (hsel : ∀ (j : Nat) (o : Oper) cs b, ops[j]? = some o → o.op ≠ .select cs b) {p : Nat} {o : Oper} (ho : ops[p]? = some o) (b : Nat → Nat) : ∀ (E : List Alc), (∀ e ∈ E, e.2.1 ∉ o.looksAt ops) → ∀ a, execOp (putD b E a).eval o = execOp a.eval o ∧ Region.wanted o (yielded ops (putD b E a).tmps) = Region.wanted o (yielded ops a.tmps)
  | [], _, _ => ⟨rfl, rfl⟩
  | e :: E, hE, a => by
    have h1 := exec_putD hsel ho b E (fun x hx => hE x (List.mem_cons_of_mem _ hx)) (a.put (some e.2.1) (ptr (b e.1)))
    have he := hE e (List.mem_cons_self ..)
    exact ⟨h1.1.trans (execOp_put (ops := ops) o (fun cs b => hsel p o cs b ho) a _ _ (fun d hd => by injection hd with hd; subst hd; exact he)),
      h1.2.trans (wanted_put o a _ _ (fun d hd => by injection hd with hd; subst hd; exact he))⟩

theorem float_main (H : FloatOK md ops D Z Ps) (hnd : D.Pairwise fun e e' => e.1 ≠ e'.1 ∧ e.2.1 ≠ e'.2.1)
    (hx : ∀ e ∈ D, ∀ o, ops[e.1]? = some o → ∀ ρ w, (execOp ρ o).run P w = .ok (.value (ptr w.heap.size)) (w.alloc e.2.2))
    (hQ : ∀ c a w d v, Q (.panic c) (a.put d v) w ↔ Q (.panic c) a w) (hSm : ∀ y z, S y → Gr y z → S z) {B0 fz : Nat} :
    ∀ (m n : Nat) (E F : List Alc) (b : Nat → Nat) (G : Nat → Prop) (listed : Array Bool) (a : Act) (w : World), (∀ k, G k → k < w.heap.size) → n + F.length = m → (E ++ F).Perm D → listed.size = ops.size → (∀ e ∈ D, listed.getD e.1 true = false) → S w →
      (∀ e ∈ E, B0 ≤ b e.1 ∧ w.heap[b e.1]? = some e.2.2 ∧ ¬ G (b e.1)) → (E.Pairwise fun e e' => b e.1 ≠ b e'.1) → B0 ≤ w.heap.size → wpF P md ops Q S D Ps (Fin0 P md ops Q S D B0 fz) n G listed a w →
      wpAnyH P md ops Q S (m + fz) (setD E listed) (putD b E a) w := by
  have hsel := Region.noSelect_spec H.sel
  intro m
  induction m with
  | zero =>
    intro n E F b G listed a w hG hm hperm hsz hun hS hb hpw hB h
    obtain rfl : n = 0 := by omega
    obtain rfl : F = [] := List.eq_nil_of_length_eq_zero (by omega)
    rw [List.append_nil] at hperm
    have hpwD : D.Pairwise fun e e' => b e.1 ≠ b e'.1 := (hperm.pairwise_iff (fun h => Ne.symm h)).1 hpw
    have hnE := (hperm.symm.pairwise_iff (fun h => ⟨h.1.symm, h.2.symm⟩)).1 hnd
    rw [Nat.zero_add, setD_perm hperm hnE, putD_perm hperm hnE]
    exact h.2 w (Gr.refl w) b (fun e he => hb e (hperm.mem_iff.2 he)) hpwD hS
  | succ m ih =>
    intro n E F b G listed a w hG hm hperm hsz hun hS hb hpw hB h
    have hED : ∀ e ∈ E, e ∈ D := fun e he => hperm.mem_iff.1 (List.mem_append_left _ he)
    have hFD : ∀ e ∈ F, e ∈ D := fun e he => hperm.mem_iff.1 (List.mem_append_right _ he)
    have hEF : (E ++ F).Pairwise fun e e' => e.1 ≠ e'.1 ∧ e.2.1 ≠ e'.2.1 := (hperm.symm.pairwise_iff (fun h => ⟨h.1.symm, h.2.symm⟩)).1 hnd
    have hnotE : ∀ e ∈ F, inD E e.1 = false := fun e he => by
      cases hi : inD E e.1 with
      | false => rfl
      | true =>
        obtain ⟨x, hxE, hxe⟩ := inD_iff.1 hi
        exact absurd hxe ((List.pairwise_append.1 hEF).2.2 x hxE e he).1
    have hnDE : ∀ j, inD D j = false → inD E j = false := fun j hj => by
      cases hi : inD E j with
      | false => rfl
      | true =>
        obtain ⟨x, hxE, hxe⟩ := inD_iff.1 hi
        rw [inD_iff.2 ⟨x, hED x hxE, hxe⟩] at hj; cases hj
    by_cases hcase : F = [] ∧ ∀ j ∈ readyF md ops D listed, j ∈ Ps
    · obtain ⟨rfl, hps⟩ := hcase
      rw [List.append_nil] at hperm
      have hpwD : D.Pairwise fun e e' => b e.1 ≠ b e'.1 := (hperm.pairwise_iff (fun h => Ne.symm h)).1 hpw
      have hnE := (hperm.symm.pairwise_iff (fun h => ⟨h.1.symm, h.2.symm⟩)).1 hnd
      rw [setD_perm hperm hnE, putD_perm hperm hnE]
      exact wpAnyH_le (by simp at hm; omega) (fin_stage H hQ hSm hpwD n G listed a w hsz hun hps hS (fun e he => hb e (hperm.mem_iff.2 he)) h)
    · have hfm : m + 1 + fz = (m + fz) + 1 := by omega
      rw [hfm]
      have hFready : ∀ e ∈ F, e.1 ∈ Region.ready md ops (setD E listed) := fun e he => by
        obtain ⟨o, ho, _, _, haft, _, _⟩ := H.d e (hFD e he)
        refine mem_ready.2 ⟨by rw [setD_getD E listed _ _ (hnotE e he)]; exact hun e (hFD e he), o, ho, fun x hxa hxb => ?_⟩
        rw [haft x hxa] at hxb; cases hxb
      refine ⟨fun hempty => ?_, fun i hi => ?_⟩
      · exfalso
        refine hcase ⟨?_, fun j hj => ?_⟩
        · cases F with
          | nil => rfl
          | cons e F => have := hFready e (List.mem_cons_self ..); rw [hempty] at this; cases this
        · obtain ⟨hjr, hjd⟩ := mem_readyF.1 hj
          have := ready_setD hjr (hnDE j hjd)
          rw [hempty] at this; cases this
      · obtain ⟨hi0, oi, hoi, hall⟩ := mem_ready.1 hi
        have hilt : i < ops.size := (Array.getElem?_eq_some_iff.1 hoi).1
        cases hid : inD D i with
        | true =>
          obtain ⟨e, heD, rfl⟩ := inD_iff.1 hid
          have heF : e ∈ F := by
            rcases List.mem_append.1 (hperm.mem_iff.2 heD) with h1 | h1
            · rw [setD_true E listed e.1 (inD_iff.2 ⟨e, h1, rfl⟩) (by rw [hsz]; exact hilt)] at hi0; cases hi0
            · exact h1
          obtain ⟨o, ho, hdst, hgd, _, _, _⟩ := H.d e heD
          obtain rfl : oi = o := by rw [hoi] at ho; injection ho
          obtain ⟨F1, F2, rfl⟩ := List.append_of_mem heF
          have hEe : ∀ x ∈ E, x.1 ≠ e.1 := fun x hxE => ((List.pairwise_append.1 hEF).2.2 x hxE e heF).1
          have hbE : ∀ x ∈ E, b x.1 = (fun k => if k = e.1 then w.heap.size else b k) x.1 := fun x hxE => by simp [hEe x hxE]
          have hP : (E ++ [e] ++ (F1 ++ F2)).Perm D := by
            refine List.Perm.trans ?_ hperm
            rw [List.append_assoc]
            exact List.Perm.append_left E (List.perm_middle (a := e) (l₁ := F1) (l₂ := F2)).symm
          have key := ih n (E ++ [e]) (F1 ++ F2) (fun k => if k = e.1 then w.heap.size else b k) G listed a (w.alloc e.2.2) (fun k hk => Nat.lt_of_lt_of_le (hG k hk) (Gr.alloc w e.2.2).size) (by simp at hm ⊢; omega) hP hsz hun (hSm _ _ hS (Gr.alloc w _))
            (fun x hx2 => by
              rcases List.mem_append.1 hx2 with h1 | h1
              · simp only [hEe x h1, if_false]; exact ⟨(hb x h1).1, (Gr.alloc w _).kept (hb x h1).2.1, (hb x h1).2.2⟩
              · obtain rfl : x = e := by simpa using h1
                simp only [if_true]
                exact ⟨hB, heap_alloc_new w _, fun hg => absurd (hG _ hg) (Nat.lt_irrefl _)⟩)
            (by
              refine List.pairwise_append.2 ⟨hpw.imp_of_mem (fun {x y} hx1 hy1 hxy => by simp only [hEe x hx1, hEe y hy1, if_false]; exact hxy), List.pairwise_singleton _ _, fun x hx1 y hy1 => ?_⟩
              obtain rfl : y = e := by simpa using hy1
              simp only [hEe x hx1, if_false, if_true]
              have := (Array.getElem?_eq_some_iff.1 (hb x hx1).2.1).1
              omega)
            (by simp; omega) (wpF_grow n (Gr.alloc w _) h)
          rw [setD_snoc, putD_snoc, ← putD_congr hbE] at key
          simp only [if_true] at key
          have hw : Region.wanted oi (yielded ops (putD b E a).tmps) = true := by unfold Region.wanted; rw [hgd]
          unfold wpOp
          simp only [hoi, hw, if_true]
          refine .inl ?_
          unfold Oper.wp
          rw [hx e heD oi hoi]
          simp only [Oper.upon, hdst]
          exact ⟨hSm _ _ hS (Gr.alloc w _), key⟩
        | false =>
          have hiE := hnDE i hid
          have hi0' : listed.getD i true = false := by rwa [setD_getD E listed i true hiE] at hi0
          by_cases hiZ : i ∈ Z
          · exfalso
            have hwait : ∀ k, k < ops.size → k ∉ Z → k ∉ Ps → (setD E listed).getD k false = true := fun k hk hkz hkp => by
              obtain ⟨x, hxa, hxb, hxo⟩ := H.z i oi hoi hiZ hid k hk hkz hkp
              have := hall x hxa hxb
              rwa [hxo] at this
            have hszE : (setD E listed).size = ops.size := (setD_size E listed).trans hsz
            refine hcase ⟨?_, fun j hj => ?_⟩
            · cases F with
              | nil => rfl
              | cons e F =>
                exfalso
                have heD := hFD e (List.mem_cons_self ..)
                obtain ⟨oe, hoe, _, _, _, hez, hep⟩ := H.d e heD
                have helt := (Array.getElem?_eq_some_iff.1 hoe).1
                have h1 := hwait e.1 helt hez hep
                rw [setD_getD E listed _ _ (hnotE e (List.mem_cons_self ..))] at h1
                have h2 := hun e heD
                have h3 : e.1 < listed.size := by rw [hsz]; exact helt
                simp [h3] at h1 h2
                rw [h1] at h2; cases h2
            · obtain ⟨hjr, hjd⟩ := mem_readyF.1 hj
              obtain ⟨hj0, oj, hoj, hallj⟩ := mem_ready.1 hjr
              by_cases hjP : j ∈ Ps
              · exact hjP
              · exfalso
                have hjlt := (Array.getElem?_eq_some_iff.1 hoj).1
                have hjlt2 : j < listed.size := by rw [hsz]; exact hjlt
                by_cases hjZ : j ∈ Z
                · obtain ⟨e, heD⟩ := H.ne
                  obtain ⟨oe, hoe, _, _, _, hez, hep⟩ := H.d e heD
                  have helt := (Array.getElem?_eq_some_iff.1 hoe).1
                  obtain ⟨x, hxa, hxb, hxo⟩ := H.z j oj hoj hjZ hjd e.1 helt hez hep
                  have h1 := hallj x hxa hxb
                  rw [hxo] at h1
                  have h2 := hun e heD
                  have h3 : e.1 < listed.size := by rw [hsz]; exact helt
                  simp [h3] at h1 h2
                  rw [h1] at h2; cases h2
                · have h1 := hwait j hjlt hjZ hjP
                  rw [setD_getD E listed _ _ (hnDE j hjd)] at h1
                  simp [hjlt2] at h1 hj0
                  rw [h1] at hj0; cases hj0
          · have hai := H.a i oi hoi hiZ hid
            have hiR : i ∈ readyF md ops D listed := mem_readyF.2 ⟨mem_ready.2 ⟨hi0', oi, hoi, fun x hxa hxb => by
              have := hall x hxa hxb
              rwa [setD_getD E listed _ _ (hnDE _ (hai.2.1 x hxa hxb))] at this⟩, hid⟩
            have hE2 : ∀ e ∈ E, e.2.1 ∉ oi.looksAt ops ∧ oi.dst ≠ some e.2.1 := fun e he => hai.1 e (hED e he)
            have hun' : ∀ e ∈ D, (listed.setIfInBounds i true).getD e.1 true = false := fun e he => by
              rw [getD_set_ne true (fun hie : i = e.1 => by rw [inD_iff.2 ⟨e, he, hie.symm⟩] at hid; cases hid)]; exact hun e he
            cases n with
            | zero => rw [h.1] at hiR; cases hiR
            | succ n =>
              have step := h.2 i hiR
              by_cases hiP : i ∈ Ps
              · obtain ⟨o, v, ho, hy, hw⟩ := step.1 hiP
                obtain rfl : oi = o := by rw [hoi] at ho; injection ho
                have ex := exec_putD hsel hoi b E (fun e he => (hE2 e he).1) a
                refine (hy.of_same ex.1 ex.2).wpOp hoi hS ⟨hS, ?_⟩
                have key := ih n E F b G (listed.setIfInBounds i true) (a.put oi.dst v) w hG (by omega) hperm (by simpa using hsz) hun' hS hb hpw hB hw
                rwa [setD_set E listed i hiE, putD_put b E (fun e he => (hE2 e he).2)] at key
              · refine wpOp_putD hoi (fun cs b => hsel i oi cs b hoi) b (fun c a w d v hh => (hQ c a w d v).2 hh) E hE2 ?_ (step.2 hiP w (Gr.refl w))
                rintro a' w' ⟨hg, hw⟩
                have hS' := hSm _ _ hS hg
                have key := ih n E F b (fun k => G k ∨ (w.heap.size ≤ k ∧ k < w'.heap.size)) (listed.setIfInBounds i true) a' w' (fun k hk => hk.elim (fun hk => Nat.lt_of_lt_of_le (hG k hk) hg.size) (fun hk => hk.2)) (by omega) hperm (by simpa using hsz) hun' hS' (fun e he => ⟨(hb e he).1, hg.kept (hb e he).2.1, fun hk => hk.elim (hb e he).2.2 (fun hk => absurd (Array.getElem?_eq_some_iff.1 (hb e he).2.1).1 (Nat.not_lt.2 hk.1))⟩) hpw (Nat.le_trans hB hg.size) hw
                rw [setD_set E listed i hiE] at key
                exact ⟨hS', key⟩

end
end Go.Proofs.YtmbbmmnpkdfecaaGreatDoor

/- How the walk with free allocations is begun, driven and ended. Conditions: as each theorem states. -/

set_option linter.all false
namespace Go.Proofs.YtmbbmmnpkdfecaaGreatDoor
open Go.RowKit

section
variable {P : Program} {ops : Array Oper} {Q : Exit → Act → World → Prop} {md : Region.Mode} {S : World → Prop} {D : List Alc} {Z Ps : List Nat}

/-- Each of the allocations lays what is said of it. -/
def AllocsOK (P : Program) (ops : Array Oper) : List Alc → Prop
  | [] => True
  | e :: D => (∃ T, (ops[e.1]?).map (·.op) = some (.alloc T) ∧ ∀ w, (Instr.alloc T true (.tuple #[])).run P w = .ok (ptr w.heap.size) (w.alloc e.2.2)) ∧ AllocsOK P ops D
theorem AllocsOK.run : ∀ {D : List Alc}, AllocsOK P ops D → ∀ e ∈ D, ∀ o, ops[e.1]? = some o → ∀ ρ w, (execOp ρ o).run P w = .ok (.value (ptr w.heap.size)) (w.alloc e.2.2)
  | [], _, _, h, _, _, _, _ => by cases h
  | x :: D, h, e, he, o, ho, ρ, w => by
    rcases List.mem_cons.1 he with rfl | he
    · obtain ⟨⟨T, hT, hr⟩, _⟩ := h
      rw [ho] at hT
      have hT2 : o.op = .alloc T := by simpa using hT
      have h2 := hr w
      unfold execOp
      rw [hT2]
      simp only [Sem.run_bind, h2, Result.andThen]
      rfl
    · exact AllocsOK.run h.2 e he o ho ρ w

/-- The beginning: D are the allocations, Z what waits for them all, Ps what yields at once and that Z need not wait for. -/
theorem float_any {fuel n fz : Nat} {listed : Array Bool} {a : Act} {w : World} (hB : floatB md ops D Z Ps = true) (hnd : D.Pairwise fun e e' => e.1 ≠ e'.1 ∧ e.2.1 ≠ e'.2.1) (hx : AllocsOK P ops D)
    (hQ : ∀ c a w (d : Tmp) v, Q (.panic c) (a.put (some d) v) w ↔ Q (.panic c) a w) (hSm : ∀ y z, S y → Gr y z → S z) (hS : S w) (hsz : listed.size = ops.size) (hun : (D.all fun e => !listed.getD e.1 true) = true) (hf : n + D.length + fz ≤ fuel)
    (h : wpF P md ops Q S D Ps (Fin0 P md ops Q S D w.heap.size fz) n (fun _ => False) listed a w) : wpAnyH P md ops Q S fuel listed a w :=
  wpAnyH_le hf (float_main (floatOK_of hB) hnd hx.run (fun c a w d v => by cases d with | none => exact Iff.rfl | some d => exact hQ c a w d v) hSm (n + D.length) n [] D (fun _ => 0) (fun _ => False) listed a w (fun _ hk => hk.elim) rfl (by rw [List.nil_append]) hsz
    (fun e he => by have := List.all_eq_true.1 hun e he; simpa using this) hS (fun e he => by cases he) List.Pairwise.nil (Nat.le_refl _) h)

/-- One operation that alone may come up. -/
theorem wpF_one {j : Nat} {o : Oper} {n : Nat} {G : Nat → Prop} {listed : Array Bool} {a : Act} {w : World} {fin : (Nat → Prop) → Array Bool → Act → World → Prop} (hr : readyF md ops D listed = [j]) (hp : Ps.contains j = false) (ho : ops[j]? = some o) (hSm : ∀ y z, S y → Gr y z → S z) (hS : S w)
    (h : ∀ w', Gr w w' → S w' → ∀ K' : Act → World → Prop, Shut (∀ a' w'', Gr w' w'' → (S w'' → wpF P md ops Q S D Ps fin n (fun k => G k ∨ (w'.heap.size ≤ k ∧ k < w''.heap.size)) (listed.setIfInBounds j true) a' w'') → K' a' w'') →
      if Region.wanted o (yielded ops a.tmps) = true then Oper.wp P o a w' K' Q else K' (a.put o.dst undef) w') : wpF P md ops Q S D Ps fin (n + 1) G listed a w :=
  ⟨fun h0 => (by rw [h0] at hr; cases hr), fun i hi => by
    rw [hr] at hi
    obtain rfl : i = j := by simpa using hi
    refine ⟨fun hP => ?_, fun _ w' hg => ?_⟩
    · have : Ps.contains i = true := by simpa using hP
      rw [this] at hp; cases hp
    · have hS' := hSm _ _ hS hg
      exact wpOp_step ho (fun K' hK => h w' hg hS' K' (fun a' w'' hg' hh => hK a' w'' ⟨hg', hh (hSm _ _ hS' hg')⟩))⟩

/-- The end: what is left waits for the allocations, which are done. -/
theorem wpF_done {B0 fz n : Nat} {G : Nat → Prop} {listed : Array Bool} {a : Act} {w : World} (hr : readyF md ops D listed = [])
    (h : ∀ w', Gr w w' → S w' → ∀ b : Nat → Nat, (∀ e ∈ D, B0 ≤ b e.1 ∧ w'.heap[b e.1]? = some e.2.2 ∧ ¬ G (b e.1)) → (D.Pairwise fun e e' => b e.1 ≠ b e'.1) → wpAnyH P md ops Q S fz (setD D listed) (putD b D a) w') :
    wpF P md ops Q S D Ps (Fin0 P md ops Q S D B0 fz) n G listed a w := by
  have h0 : ∀ w', Gr w w' → Fin0 P md ops Q S D B0 fz G listed a w' := fun w' hg b hb hp hS => h w' hg hS b hb hp
  cases n with
  | zero => exact ⟨hr, h0⟩
  | succ n => exact ⟨fun _ => h0, fun j hj => (by rw [hr] at hj; cases hj)⟩
end

theorem g_start (w : World) : ∀ k : Nat, (fun _ : Nat => False) k → k < w.heap.size := fun _ h => h.elim
theorem g_step {G : Nat → Prop} {w w' w'' : World} (h : ∀ k, G k → k < w.heap.size) (g : Gr w w') (g' : Gr w' w'') : ∀ k, (fun k => G k ∨ (w'.heap.size ≤ k ∧ k < w''.heap.size)) k → k < w''.heap.size :=
  fun k hk => hk.elim (fun hk => Nat.lt_of_lt_of_le (h k hk) (g.trans g').size) (fun hk => hk.2)

theorem fbox_of_heap {w : World} {n : Nat} {c i : Int} {t : TypeId} (h : w.heap[n]? = some (.cells #[.int .i64 c, .int .i64 i] t)) : FBox w n c i := by
  have hlt := (Array.getElem?_eq_some_iff.1 h).1
  refine ⟨hlt, ?_, ?_, ?_, ?_⟩ <;> simp [World.cell?, World.frozen?, h]

theorem alloc_fault (w : World) : (Instr.alloc 37 true (.tuple #[])).run Tryz.prog w = .ok (ptr w.heap.size) (w.alloc (.cells #[.int .i64 0, .int .i64 0] 37)) := by kernel_rfl

end Go.Proofs.YtmbbmmnpkdfecaaGreatDoor

/- What the allocations of a tree, a reply and a fault lay; blocks read out of the heap. No condition. -/

set_option linter.all false
namespace Go.Proofs.YtmbbmmnpkdfecaaGreatDoor
open Go.RowKit

theorem alloc_tree (w : World) : (Instr.alloc 24 true (.tuple #[])).run Tryz.prog w = .ok (ptr w.heap.size) (w.alloc (.cells #[.slice none 0 0] 24)) := by kernel_rfl
theorem alloc_reply (w : World) : (Instr.alloc 35 true (.tuple #[])).run Tryz.prog w = .ok (ptr w.heap.size) (w.alloc (.cells #[.int .i64 0, .slice none 0 0, .slice none 0 0, .int .i64 0, .int .i64 0, .int .i64 0, .int .i64 0, .int .i64 0, .int .i64 0] 35)) := by kernel_rfl
theorem blk_of_heap {w : World} {n : Nat} {l : List Value} {t : TypeId} (h : w.heap[n]? = some (.cells l.toArray t)) : Blk w n l := by
  have hlt := (Array.getElem?_eq_some_iff.1 h).1
  refine ⟨hlt, fun j v hj => ?_, fun j hj => ?_⟩
  · unfold World.cell?; rw [h]; simpa using hj
  · unfold World.frozen?; rw [h]; simp

theorem frozen_of_heap {w : World} {n : Nat} {l : Array Value} {t : TypeId} (h : w.heap[n]? = some (.cells l t)) (j : Nat) : w.frozen? ⟨n, j, none⟩ = false := by
  unfold World.frozen?; rw [h]; simp
/-- The nine cells of a reply stored elsewhere. -/
theorem Blk.far9 {w : World} {m n : Nat} {l : List Value} (h : Blk w m l) (hm : m ≠ n) (b0 b1 b2 b3 b4 b5 b6 b7 b8 : Value) :
    Blk (((((((((w.setCell ⟨n, 0, none⟩ b0).setCell ⟨n, 1, none⟩ b1).setCell ⟨n, 2, none⟩ b2).setCell ⟨n, 3, none⟩ b3).setCell ⟨n, 4, none⟩ b4).setCell ⟨n, 5, none⟩ b5).setCell ⟨n, 6, none⟩ b6).setCell ⟨n, 7, none⟩ b7).setCell ⟨n, 8, none⟩ b8) m l :=
  ((((((((h.far (p := ⟨n, 0, none⟩) hm b0).far (p := ⟨n, 1, none⟩) hm b1).far (p := ⟨n, 2, none⟩) hm b2).far (p := ⟨n, 3, none⟩) hm b3).far (p := ⟨n, 4, none⟩) hm b4).far (p := ⟨n, 5, none⟩) hm b5).far (p := ⟨n, 6, none⟩) hm b6).far (p := ⟨n, 7, none⟩) hm b7).far (p := ⟨n, 8, none⟩) hm b8
theorem below9 {w0 w : World} {B n : Nat} (hb : Below B w0 w) (hn : B ≤ n) (b0 b1 b2 b3 b4 b5 b6 b7 b8 : Value) :
    Below B w0 (((((((((w.setCell ⟨n, 0, none⟩ b0).setCell ⟨n, 1, none⟩ b1).setCell ⟨n, 2, none⟩ b2).setCell ⟨n, 3, none⟩ b3).setCell ⟨n, 4, none⟩ b4).setCell ⟨n, 5, none⟩ b5).setCell ⟨n, 6, none⟩ b6).setCell ⟨n, 7, none⟩ b7).setCell ⟨n, 8, none⟩ b8) :=
  ((((((((hb.setCell (p := ⟨n, 0, none⟩) hn b0).setCell (p := ⟨n, 1, none⟩) hn b1).setCell (p := ⟨n, 2, none⟩) hn b2).setCell (p := ⟨n, 3, none⟩) hn b3).setCell (p := ⟨n, 4, none⟩) hn b4).setCell (p := ⟨n, 5, none⟩) hn b5).setCell (p := ⟨n, 6, none⟩) hn b6).setCell (p := ⟨n, 7, none⟩) hn b7).setCell (p := ⟨n, 8, none⟩) hn b8

end Go.Proofs.YtmbbmmnpkdfecaaGreatDoor

/- What a call has laid stays as it is while blocks outside of it are written: a tree, a reply. No condition beyond those that each theorem states. -/

set_option linter.all false
namespace Go.Proofs.YtmbbmmnpkdfecaaGreatDoor
open Go.RowKit

/-- The blocks from lo on and below hi are as they were. -/
def Span (lo hi : Nat) (z y : World) : Prop := ∀ k, lo ≤ k → k < hi → y.heap[k]? = z.heap[k]?
theorem Span.gr {z y : World} (lo : Nat) (g : Gr z y) : Span lo z.heap.size z y := fun k _ h => g.block k h
theorem Span.set {lo hi : Nat} {z y : World} (h : Span lo hi z y) {p : Addr} (hp : p.block < lo ∨ hi ≤ p.block) (u : Value) : Span lo hi z (y.setCell p u) :=
  fun k h1 h2 => (Below.heap_setCell _ _ _ _ (by omega)).trans (h k h1 h2)
theorem Span.set9 {lo hi n : Nat} {z y : World} (h : Span lo hi z y) (hp : n < lo ∨ hi ≤ n) (b0 b1 b2 b3 b4 b5 b6 b7 b8 : Value) :
    Span lo hi z (((((((((y.setCell ⟨n, 0, none⟩ b0).setCell ⟨n, 1, none⟩ b1).setCell ⟨n, 2, none⟩ b2).setCell ⟨n, 3, none⟩ b3).setCell ⟨n, 4, none⟩ b4).setCell ⟨n, 5, none⟩ b5).setCell ⟨n, 6, none⟩ b6).setCell ⟨n, 7, none⟩ b7).setCell ⟨n, 8, none⟩ b8) :=
  ((((((((h.set (p := ⟨n, 0, none⟩) hp b0).set (p := ⟨n, 1, none⟩) hp b1).set (p := ⟨n, 2, none⟩) hp b2).set (p := ⟨n, 3, none⟩) hp b3).set (p := ⟨n, 4, none⟩) hp b4).set (p := ⟨n, 5, none⟩) hp b5).set (p := ⟨n, 6, none⟩) hp b6).set (p := ⟨n, 7, none⟩) hp b7).set (p := ⟨n, 8, none⟩) hp b8
theorem own_span {z y : World} {lo n size : Nat} {e : TypeId} {v : Value} {xs : List Value} (h : z.ownsRow lo e size v n xs) (hs : Span lo z.heap.size z y) : y.ownsRow lo e size v n xs := by
  refine ⟨h.1, ?_⟩
  rcases h.2 with h1 | ⟨g, cap, cur, hv, hg, hh, r⟩
  · exact .inl h1
  · exact .inr ⟨g, cap, cur, hv, hg, (hs g hg (Array.getElem?_eq_some_iff.1 hh).1).trans hh, r⟩
theorem Rws.span {z y : World} {lo : Nat} {s : Sl} {x : Ino} (h : Rws z lo s x) (hs : Span lo z.heap.size z y) : Rws y lo s x :=
  ⟨own_span h.e hs, own_span h.d hs, own_span h.a hs, own_span h.x hs⟩
theorem OT.span {z y : World} {lo g cap : Nat} {sl : Nat → Sl} {t : FT} (h : OT z lo g cap sl t) (hs : Span lo z.heap.size z y) : OT y lo g cap sl t := by
  obtain ⟨cs, ho⟩ := h.own
  refine ⟨⟨cs, own_span ho hs⟩, fun j hj i u hu => ?_, fun j hj => (h.r j hj).span hs, h.ne, h.fit, h.len⟩
  exact (World.cell?_of_block (a := ⟨g, j * 8 + i, none⟩) (hs g h.lt.1 h.lt.2)).trans (h.c j hj i u hu)
theorem Byts.span {z y : World} {lo : Nat} {v : Value} {d : List UInt8} (h : Byts z z.heap.size v d) (hl : ∀ q, v.ownBlock = some q → lo ≤ q) (hs : Span lo z.heap.size z y) (hz : z.heap.size ≤ y.heap.size) : Byts y y.heap.size v d := by
  obtain ⟨a, c, rfl, hc, hn, hx⟩ := h
  refine ⟨a, c, rfl, hc, hn, fun h0 => ?_⟩
  obtain ⟨b, o, rfl, hb, hj⟩ := hx h0
  exact ⟨b, o, rfl, Nat.lt_of_lt_of_le hb hz, fun j hjl => (World.cell?_of_block (a := ⟨b, o + j, none⟩) (hs b (hl b rfl) hb)).trans (hj j hjl)⟩
theorem Strs.span {z y : World} {lo : Nat} {v : Value} {xs : List ByteArray} (h : Strs z z.heap.size v xs) (hl : ∀ q, v.ownBlock = some q → lo ≤ q) (hs : Span lo z.heap.size z y) (hz : z.heap.size ≤ y.heap.size) : Strs y y.heap.size v xs := by
  obtain ⟨a, c, rfl, hc, hn, hm, hx⟩ := h
  refine ⟨a, c, rfl, hc, hn, hm, fun h0 => ?_⟩
  obtain ⟨b, o, rfl, hb, hj⟩ := hx h0
  exact ⟨b, o, rfl, Nat.lt_of_lt_of_le hb hz, fun j hjl => (World.cell?_of_block (a := ⟨b, o + j, none⟩) (hs b (hl b rfl) hb)).trans (hj j hjl)⟩
theorem RpS.span {z y : World} {lo : Nat} {vd vn : Value} {p : Rp} (h : RpS z lo z.heap.size vd vn p) (hs : Span lo z.heap.size z y) (hz : z.heap.size ≤ y.heap.size) : RpS y lo y.heap.size vd vn p :=
  ⟨h.d.span h.ld hs hz, h.ns.span h.ln hs hz, h.ld, h.ln⟩
/-- A block that none of the walk's own steps laid lies outside of what the one call laid. -/
theorem out_one {p lo hi : Nat} (h : ¬ (False ∨ (lo ≤ p ∧ p < hi))) : p < lo ∨ hi ≤ p := by omega

end Go.Proofs.YtmbbmmnpkdfecaaGreatDoor
