/- Plain facts on sorted lists of names: sorting and compacting gives the one strictly ascending list with the same members; so does inserting the names one by one. No program. -/
import Derived.Test.YtndhhofidkaomaaAttrPlain
import Derived.Lib.SlicesCompact

set_option linter.all false
namespace Go.Proofs.Ytndhhofidkaomaa
open Go.RowKit

def Asc (l : List ByteArray) : Prop := l.Pairwise (fun a b => ltS a b = true)
theorem asc_unique : ∀ {xs ys : List ByteArray}, Asc xs → Asc ys → (∀ x, x ∈ xs ↔ x ∈ ys) → xs = ys
  | [], [], _, _, _ => rfl
  | [], y :: ys, _, _, h => absurd ((h y).2 (by simp)) (by simp)
  | x :: xs, [], _, _, h => absurd ((h x).1 (by simp)) (by simp)
  | x :: xs, y :: ys, hx, hy, h => by
    unfold Asc at hx hy
    rw [List.pairwise_cons] at hx hy
    have e : x = y := by
      rcases List.mem_cons.1 ((h x).1 (by simp)) with e | h1
      · exact e
      · rcases List.mem_cons.1 ((h y).2 (by simp)) with e | h2
        · exact e.symm
        · have := ltS_asymm (hx.1 y h2)
          rw [hy.1 x h1] at this; cases this
    subst e
    rw [asc_unique hx.2 hy.2 (fun z => ?_)]
    constructor
    · intro hz
      rcases List.mem_cons.1 ((h z).1 (List.mem_cons_of_mem _ hz)) with e | h1
      · subst e; have := hx.1 z hz; rw [ltS_irrefl] at this; cases this
      · exact h1
    · intro hz
      rcases List.mem_cons.1 ((h z).2 (List.mem_cons_of_mem _ hz)) with e | h1
      · subst e; have := hy.1 z hz; rw [ltS_irrefl] at this; cases this
      · exact h1

/-- The names of a list, as lists of bytes. -/
def nmL (L : List Attr) : List (List UInt8) := L.map (fun a => a.n.data.toList)
def sortN (ss : List (List UInt8)) : List (List UInt8) := ss.mergeSort fun x y => decide (x ≤ y)
def namesB (L : List Attr) : List ByteArray := (Lib.compact (sortN (nmL L))).map (fun l => ⟨l.toArray⟩)

theorem le_trans8 {a b c : List UInt8} (h1 : a ≤ b) (h2 : b ≤ c) : a ≤ c := List.le_trans h1 h2
theorem sortN_sorted (ss : List (List UInt8)) : (sortN ss).Pairwise (fun x y => x ≤ y) := by
  have := List.pairwise_mergeSort (le := fun x y : List UInt8 => decide (x ≤ y)) (fun a b c h1 h2 => by
    rw [decide_eq_true_iff] at *; exact List.le_trans h1 h2) (fun a b => by
    rw [Bool.or_eq_true, decide_eq_true_iff, decide_eq_true_iff]; exact List.le_total a b) ss
  exact this.imp (by intro a b h; simpa using h)
theorem sortN_mem (ss : List (List UInt8)) (x : List UInt8) : x ∈ sortN ss ↔ x ∈ ss := (List.mergeSort_perm ss _).mem_iff
theorem lt_of_le_ne8 {a b : List UInt8} (h1 : a ≤ b) (h2 : a ≠ b) : a < b := by
  rcases Classical.em (a < b) with h | h
  · exact h
  · exact absurd (List.le_antisymm h1 (List.not_lt.1 h)) h2
theorem comp_all (d : Array (List UInt8)) (hs : ∀ i j, i ≤ j → j < d.size → d[i]! ≤ d[j]!) : ∀ m, m ≤ d.size →
    (Lib.compactUpTo d m).Pairwise (fun a b => a < b) ∧ (∀ x, x ∈ Lib.compactUpTo d m ↔ ∃ j, j < m ∧ d[j]! = x) ∧ (Lib.compactUpTo d m).length ≤ m
  | 0, _ => by
    have e : Lib.compactUpTo d 0 = [] := rfl
    rw [e]
    exact ⟨List.Pairwise.nil, fun x => ⟨fun h => absurd h (by simp), fun ⟨j, hj, _⟩ => absurd hj (by omega)⟩, by simp⟩
  | m + 1, hm => by
    obtain ⟨h1, h2, h3⟩ := comp_all d hs m (by omega)
    rw [Lib.compactUpTo_succ]
    cases hk : Lib.keeps d m with
    | true =>
      simp only [if_true]
      refine ⟨?_, fun x => ?_, by simp; omega⟩
      · rw [List.pairwise_append]
        refine ⟨h1, by simp, fun a ha b hb => ?_⟩
        rw [List.mem_singleton.1 hb]
        obtain ⟨j, hj, rfl⟩ := (h2 a).1 ha
        have hne : d[m]! ≠ d[m - 1]! := by
          unfold Lib.keeps at hk
          rw [decide_eq_true_iff] at hk
          rcases hk with h | h
          · omega
          · exact h
        have hl := hs (m - 1) m (by omega) (by omega)
        have hj2 := hs j (m - 1) (by omega) (by omega)
        have hlt := lt_of_le_ne8 hl (fun e => hne e.symm)
        rcases Classical.em (d[j]! < d[m]!) with h | h
        · exact h
        · exact absurd (List.le_antisymm hl (List.le_trans (List.not_lt.1 h) hj2)) (fun e => hne e.symm)
      · rw [List.mem_append, h2, List.mem_singleton]
        constructor
        · rintro (⟨j, hj, e⟩ | e)
          · exact ⟨j, by omega, e⟩
          · exact ⟨m, by omega, e.symm⟩
        · rintro ⟨j, hj, e⟩
          by_cases hjm : j = m
          · subst hjm; exact .inr e.symm
          · exact .inl ⟨j, by omega, e⟩
    | false =>
      simp only [Bool.false_eq_true, if_false, List.append_nil]
      refine ⟨h1, fun x => ?_, by omega⟩
      rw [h2]
      have hm0 : m ≠ 0 ∧ d[m]! = d[m - 1]! := by
        unfold Lib.keeps at hk
        rw [decide_eq_false_iff_not] at hk
        constructor
        · intro h; exact hk (.inl h)
        · exact Classical.not_not.1 (fun h => hk (.inr h))
      constructor
      · rintro ⟨j, hj, e⟩; exact ⟨j, by omega, e⟩
      · rintro ⟨j, hj, e⟩
        by_cases hjm : j = m
        · subst hjm; exact ⟨j - 1, by omega, by rw [← hm0.2]; exact e⟩
        · exact ⟨j, by omega, e⟩
theorem sorted_get {zs : List (List UInt8)} (h : zs.Pairwise (fun x y => x ≤ y)) : ∀ i j, i ≤ j → j < zs.toArray.size → zs.toArray[i]! ≤ zs.toArray[j]! := by
  intro i j hij hj
  have hj' : j < zs.length := by simpa using hj
  rw [getElem!_pos zs.toArray i (by simp; omega), getElem!_pos zs.toArray j hj]
  simp only [List.getElem_toArray]
  rcases Nat.eq_or_lt_of_le hij with e | h1
  · subst e; exact List.le_refl _
  · exact List.pairwise_iff_getElem.1 h i j (by omega) hj' h1
theorem comp_sorted {zs : List (List UInt8)} (h : zs.Pairwise (fun x y => x ≤ y)) : (Lib.compact zs).Pairwise (fun a b => a < b) ∧ (∀ x, x ∈ Lib.compact zs ↔ x ∈ zs) ∧ (Lib.compact zs).length ≤ zs.length := by
  obtain ⟨h1, h2, h3⟩ := comp_all zs.toArray (sorted_get h) zs.length (by simp)
  unfold Lib.compact
  refine ⟨h1, fun x => ?_, h3⟩
  rw [h2, List.mem_iff_getElem]
  constructor
  · rintro ⟨j, hj, e⟩
    rw [getElem!_pos zs.toArray j (by simpa using hj)] at e
    exact ⟨j, hj, by simpa using e⟩
  · rintro ⟨j, hj, e⟩
    refine ⟨j, hj, ?_⟩
    rw [getElem!_pos zs.toArray j (by simpa using hj)]
    simpa using e
theorem names_asc (L : List Attr) : Asc (namesB L) := by
  unfold Asc namesB
  rw [List.pairwise_map]
  refine (comp_sorted (sortN_sorted (nmL L))).1.imp (fun {a b} h => ?_)
  rw [ltS_iff]
  exact h
theorem names_mem (L : List Attr) (x : ByteArray) : x ∈ namesB L ↔ ∃ a ∈ L, a.n = x := by
  unfold namesB
  rw [List.mem_map]
  constructor
  · rintro ⟨l, h1, rfl⟩
    rw [(comp_sorted (sortN_sorted (nmL L))).2.1, sortN_mem] at h1
    obtain ⟨a, ha, rfl⟩ := List.mem_map.1 h1
    exact ⟨a, ha, bytes_ext (by simp)⟩
  · rintro ⟨a, ha, rfl⟩
    refine ⟨a.n.data.toList, ?_, bytes_ext (by simp)⟩
    rw [(comp_sorted (sortN_sorted (nmL L))).2.1, sortN_mem]
    exact List.mem_map.2 ⟨a, ha, rfl⟩
theorem names_len (L : List Attr) : (namesB L).length ≤ L.length := by
  unfold namesB
  have h1 := (comp_sorted (sortN_sorted (nmL L))).2.2
  have h2 : (sortN (nmL L)).length = L.length := by unfold sortN nmL; rw [List.length_mergeSort, List.length_map]
  rw [List.length_map]
  omega
theorem names_fits {L : List Attr} (h : ∀ a ∈ L, a.fits) : ∀ x ∈ namesB L, x.size ≤ maxLen := by
  intro x hx
  obtain ⟨a, ha, rfl⟩ := (names_mem L x).1 hx
  exact (h a ha).1

/-- Where s belongs in an ascending list. -/
def posU (l : List ByteArray) (s : ByteArray) : Nat := l.countP (fun x => ltS x s)
/-- The list with s inserted, unless it is there. -/
def hasU (l : List ByteArray) (s : ByteArray) : Bool := l.any (fun x => decide (x = s))
theorem hasU_iff {l : List ByteArray} {s : ByteArray} : hasU l s = true ↔ s ∈ l := by
  unfold hasU
  rw [List.any_eq_true]
  constructor
  · rintro ⟨x, h1, h2⟩; rw [decide_eq_true_iff] at h2; rw [← h2]; exact h1
  · intro h; exact ⟨s, h, by simp⟩
def insU (l : List ByteArray) (s : ByteArray) : List ByteArray := if hasU l s = true then l else l.take (posU l s) ++ [s] ++ l.drop (posU l s)
theorem strD {xs : List ByteArray} {k : Nat} (h : k < xs.length) : xs.getD k ByteArray.empty = xs[k] := by
  rw [List.getD_eq_getElem?_getD, List.getElem?_eq_getElem h]; rfl
theorem posU_le (l : List ByteArray) (s : ByteArray) : posU l s ≤ l.length := List.countP_le_length
theorem posU_of {l : List ByteArray} {s : ByteArray} (hl : Asc l) {k : Nat} (hk : k ≤ l.length) (h1 : ∀ j, j < k → ltS (l.getD j ByteArray.empty) s = true) (h2 : k < l.length → ltS (l.getD k ByteArray.empty) s = false) : posU l s = k := by
  unfold posU
  have e : l = l.take k ++ l.drop k := (List.take_append_drop k l).symm
  rw [e, List.countP_append]
  have c1 : (l.take k).countP (fun x => ltS x s) = k := by
    have hc : (l.take k).countP (fun x => ltS x s) = (l.take k).length := by
      rw [List.countP_eq_length]
      intro x hx
      obtain ⟨j, hj, rfl⟩ := List.mem_iff_getElem.1 hx
      have hjk : j < k := by simp at hj; omega
      have := h1 j hjk
      rw [strD (by omega)] at this
      rw [List.getElem_take]; exact this
    rw [hc]; simp; omega
  have c2 : (l.drop k).countP (fun x => ltS x s) = 0 := by
    rw [List.countP_eq_zero]
    intro x hx
    obtain ⟨j, hj, rfl⟩ := List.mem_iff_getElem.1 hx
    have hjl : k + j < l.length := by simp at hj; omega
    rw [List.getElem_drop]
    have h3 := h2 (by omega)
    rw [strD (by omega)] at h3
    cases j with
    | zero => simpa using h3
    | succ j =>
      have h4 := List.pairwise_iff_getElem.1 hl k (k + (j + 1)) (by omega) hjl (by omega)
      cases h5 : ltS l[k + (j + 1)] s with
      | false => simp
      | true => rw [ltS_trans h4 h5] at h3; cases h3
  omega
theorem posU_lt {l : List ByteArray} {s : ByteArray} (hl : Asc l) : (∀ x ∈ l.take (posU l s), ltS x s = true) ∧ (∀ x ∈ l.drop (posU l s), ltS x s = false) := by
  induction l with
  | nil => simp
  | cons a r ih =>
    unfold Asc at hl
    rw [List.pairwise_cons] at hl
    cases ha : ltS a s with
    | true =>
      have e : posU (a :: r) s = posU r s + 1 := by unfold posU; rw [List.countP_cons]; simp [ha]
      rw [e]
      obtain ⟨i1, i2⟩ := ih hl.2
      refine ⟨fun x hx => ?_, fun x hx => i2 x (by simpa using hx)⟩
      rw [List.take_succ_cons] at hx
      rcases List.mem_cons.1 hx with rfl | hx
      · exact ha
      · exact i1 x hx
    | false =>
      have hall : ∀ b ∈ r, ltS b s = false := fun b hb => by
        cases hb2 : ltS b s with
        | false => rfl
        | true => rw [ltS_trans (hl.1 b hb) hb2] at ha; cases ha
      have e : posU (a :: r) s = 0 := by
        unfold posU; rw [List.countP_cons, List.countP_eq_zero.2 (fun b hb => by rw [hall b hb]; simp)]; simp [ha]
      rw [e]
      refine ⟨by simp, fun x hx => ?_⟩
      rw [List.drop_zero] at hx
      rcases List.mem_cons.1 hx with rfl | hx
      · exact ha
      · exact hall x hx
theorem insU_mem (l : List ByteArray) (s x : ByteArray) : x ∈ insU l s ↔ x ∈ l ∨ x = s := by
  unfold insU
  split
  · rename_i h
    rw [hasU_iff] at h
    constructor
    · exact .inl
    · rintro (h1 | rfl)
      · exact h1
      · exact h
  · rw [List.mem_append, List.mem_append, List.mem_singleton]
    constructor
    · rintro ((h1 | h1) | h1)
      · exact .inl (List.mem_of_mem_take h1)
      · exact .inr h1
      · exact .inl (List.mem_of_mem_drop h1)
    · rintro (h1 | h1)
      · rw [← List.take_append_drop (posU l s) l, List.mem_append] at h1
        rcases h1 with h1 | h1
        · exact .inl (.inl h1)
        · exact .inr h1
      · exact .inl (.inr h1)
theorem insU_asc {l : List ByteArray} (hl : Asc l) (s : ByteArray) : Asc (insU l s) := by
  unfold insU
  split
  · exact hl
  · rename_i hs
    rw [hasU_iff] at hs
    obtain ⟨p1, p2⟩ := posU_lt (s := s) hl
    have hl' := hl
    unfold Asc at hl ⊢
    rw [← List.take_append_drop (posU l s) l, List.pairwise_append] at hl
    obtain ⟨q1, q2, q3⟩ := hl
    rw [List.pairwise_append, List.pairwise_append]
    refine ⟨⟨q1, by simp, fun a ha b hb => ?_⟩, q2, fun a ha b hb => ?_⟩
    · rw [List.mem_singleton.1 hb]; exact p1 a ha
    · rcases List.mem_append.1 ha with ha | ha
      · exact q3 a ha b hb
      · rw [List.mem_singleton.1 ha]
        exact ltS_of (p2 b hb) (fun e => hs (by rw [← e]; exact List.mem_of_mem_drop hb))
/-- The names of the first k attributes, inserted one by one. -/
def accK (L : List Attr) (k : Nat) : List ByteArray := (L.take k).foldl (fun l a => insU l a.n) []
theorem accK_succ {L : List Attr} {k : Nat} (h : k < L.length) : accK L (k + 1) = insU (accK L k) (L.getD k A0).n := by
  unfold accK
  rw [List.take_succ_eq_append_getElem h, List.foldl_append, atD h]
  rfl
theorem accK_all (L : List Attr) : ∀ k, k ≤ L.length → Asc (accK L k) ∧ (∀ x, x ∈ accK L k ↔ ∃ a ∈ L.take k, a.n = x) ∧ (accK L k).length ≤ k
  | 0, _ => ⟨List.Pairwise.nil, fun x => by simp [accK], by simp [accK]⟩
  | k + 1, h => by
    obtain ⟨h1, h2, h3⟩ := accK_all L k (by omega)
    rw [accK_succ (by omega)]
    refine ⟨insU_asc h1 _, fun x => ?_, ?_⟩
    · rw [insU_mem, h2, List.take_succ_eq_append_getElem (by omega), atD (by omega)]
      constructor
      · rintro (⟨a, ha, e⟩ | e)
        · exact ⟨a, List.mem_append.2 (.inl ha), e⟩
        · exact ⟨_, List.mem_append.2 (.inr (List.mem_singleton.2 rfl)), e.symm⟩
      · rintro ⟨a, ha, e⟩
        rcases List.mem_append.1 ha with ha | ha
        · exact .inl ⟨a, ha, e⟩
        · rw [List.mem_singleton.1 ha] at e; exact .inr e.symm
    · unfold insU
      split
      · omega
      · have := posU_le (accK L k) (L.getD k A0).n
        simp
        omega
theorem accK_names (L : List Attr) : accK L L.length = namesB L := by
  obtain ⟨h1, h2, _⟩ := accK_all L L.length (Nat.le_refl _)
  refine asc_unique h1 (names_asc L) fun x => ?_
  rw [h2, names_mem, List.take_length]

end Go.Proofs.Ytndhhofidkaomaa
