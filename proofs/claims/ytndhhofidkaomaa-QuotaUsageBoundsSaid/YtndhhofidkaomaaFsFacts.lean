/- What a tree without early faults is like: entries, unique ways to directories, walks that end, how long they are. No program. -/
import Derived.Test.YtndhhofidkaomaaFsPlain

set_option linter.all false
namespace Go.Proofs.Ytndhhofidkaomaa
open Go.RowKit

/-! ## Small words -/
theorem pigeon : ∀ (m n : Nat) (f : Nat → Nat), (∀ i, i < n → f i < m) → (∀ i j, i < n → j < n → f i = f j → i = j) → n ≤ m
  | 0, n, f, h, _ => by
    rcases Nat.eq_zero_or_pos n with h0 | h0
    · omega
    · exact absurd (h 0 h0) (by omega)
  | m + 1, n, f, h, inj => by
    by_cases hx : ∃ i, i < n ∧ f i = m
    · obtain ⟨i0, hi0, he⟩ := hx
      have := pigeon m (n - 1) (fun i => if i < i0 then f i else f (i + 1)) (by
        intro i hi
        split
        · rename_i hl
          have h1 := h i (by omega)
          have h2 : f i ≠ m := fun e => by have := inj i i0 (by omega) hi0 (by rw [e, he]); omega
          omega
        · rename_i hl
          have h1 := h (i + 1) (by omega)
          have h2 : f (i + 1) ≠ m := fun e => by have := inj (i + 1) i0 (by omega) hi0 (by rw [e, he]); omega
          omega) (by
        intro i j hi hj hij
        split at hij <;> split at hij
        · exact inj i j (by omega) (by omega) hij
        · have := inj i (j + 1) (by omega) (by omega) hij; omega
        · have := inj (i + 1) j (by omega) (by omega) hij; omega
        · have := inj (i + 1) (j + 1) (by omega) (by omega) hij; omega)
      omega
    · have := pigeon m n f (fun i hi => by
        have h1 := h i hi
        have h2 : f i ≠ m := fun e => hx ⟨i, hi, e⟩
        omega) inj
      omega
theorem nodup_le {l : List Nat} {m : Nat} (h : l.Nodup) (hm : ∀ x ∈ l, x < m) : l.length ≤ m := by
  refine pigeon m l.length (fun i => l.getD i 0) (fun i hi => ?_) (fun i j hi hj e => ?_)
  · have : l.getD i 0 = l[i] := by rw [List.getD_eq_getElem?_getD, List.getElem?_eq_getElem hi]; rfl
    rw [this]; exact hm _ (List.getElem_mem hi)
  · have e1 : l.getD i 0 = l[i] := by rw [List.getD_eq_getElem?_getD, List.getElem?_eq_getElem hi]; rfl
    have e2 : l.getD j 0 = l[j] := by rw [List.getD_eq_getElem?_getD, List.getElem?_eq_getElem hj]; rfl
    rw [e1, e2] at e
    unfold List.Nodup at h
    rw [List.pairwise_iff_getElem] at h
    rcases Nat.lt_trichotomy i j with hl | hl | hl
    · exact absurd e (h i j hi hj hl)
    · exact hl
    · exact absurd e.symm (h j i hj hi hl)
theorem sum_one : ∀ (l : List Nat) (i : Nat) (hi : i < l.length), 1 ≤ l[i] → 1 ≤ l.sum
  | [], i, hi, _ => absurd hi (by simp)
  | a :: l, 0, _, h => by simp only [List.getElem_cons_zero] at h; simp only [List.sum_cons]; omega
  | a :: l, i + 1, hi, h => by
    have := sum_one l i (by simpa using hi) (by simpa using h)
    simp only [List.sum_cons]; omega
theorem sum_two : ∀ (l : List Nat) (i j : Nat) (hi : i < l.length) (hj : j < l.length), i < j → 1 ≤ l[i] → 1 ≤ l[j] → 2 ≤ l.sum
  | [], i, _, hi, _, _, _, _ => absurd hi (by simp)
  | a :: l, 0, j + 1, _, hj, _, h1, h2 => by
    have := sum_one l j (by simpa using hj) (by simpa using h2)
    simp only [List.getElem_cons_zero] at h1
    simp only [List.sum_cons]; omega
  | a :: l, i + 1, j + 1, hi, hj, hij, h1, h2 => by
    have := sum_two l i j (by simpa using hi) (by simpa using hj) (by omega) (by simpa using h1) (by simpa using h2)
    simp only [List.sum_cons]; omega
theorem sum_le_mul {l : List Nat} {m : Nat} (h : ∀ x ∈ l, x ≤ m) : l.sum ≤ l.length * m := by
  induction l with
  | nil => simp
  | cons a l ih =>
    have h1 := h a (by simp)
    have h2 := ih fun x hx => h x (by simp [hx])
    simp only [List.sum_cons, List.length_cons, Nat.add_mul, Nat.one_mul]
    omega

/-! ## A tree whose inodes are valid by themselves -/
structure Ok1 (t : Tr) : Prop where
  ne : 0 < t.length
  le : t.length ≤ 40
  root : (nod t 0).k = 1
  code : ∀ n, n < t.length → codeN t (nod t n) = 0
theorem codeDs_zero (t : Tr) : ∀ (es : List DE) (p : ByteArray), codeDs t p es = 0 → (∀ e ∈ es, vname e.n = true ∧ e.i ≠ 0 ∧ used t e.i = true) ∧ (∀ e ∈ es, ltS p e.n = true) ∧ es.Pairwise (fun a b => ltS a.n b.n = true)
  | [], _, _ => ⟨by simp, by simp, by simp⟩
  | e :: r, p, h => by
    unfold codeDs at h
    split at h
    · rename_i h0
      obtain ⟨i1, i2, i3⟩ := codeDs_zero t r e.n h
      unfold codeD at h0
      split at h0
      · cases h0
      · rename_i h1
        split at h0
        · cases h0
        · rename_i h2
          split at h0
          · cases h0
          · rename_i h3
            have hp : ltS p e.n = true := by simpa using h2
            have h4 : e.i ≠ 0 ∧ used t e.i = true := ⟨fun e => h3 (.inl e), by
              cases hu : used t e.i with
              | true => rfl
              | false => exact absurd (.inr hu) h3⟩
            refine ⟨?_, ?_, ?_⟩
            · intro a ha
              rcases List.mem_cons.1 ha with rfl | ha
              · exact ⟨by simpa using h1, h4⟩
              · exact i1 a ha
            · intro a ha
              rcases List.mem_cons.1 ha with rfl | ha
              · exact hp
              · exact ltS_trans hp (i2 a ha)
            · exact List.pairwise_cons.2 ⟨i2, i3⟩
    · rename_i h0; exact absurd h h0
/-- What a valid inode is. -/
structure Fine (t : Tr) (x : Nod) : Prop where
  kind : x.k = 0 ∨ x.k = 1 ∨ x.k = 2
  len : x.es.length ≤ 16
  dl : x.dl ≤ 200
  q0 : 0 ≤ x.q
  q1 : x.q ≤ 100000
  dir : x.k ≠ 1 → x.es = [] ∧ x.q = 0
  ent : ∀ e ∈ x.es, vname e.n = true ∧ e.i ≠ 0 ∧ used t e.i = true
  srt : x.es.Pairwise (fun a b => ltS a.n b.n = true)
theorem fine_of {t : Tr} {x : Nod} (h : codeN t x = 0) : Fine t x := by
  unfold codeN at h
  split at h
  · rename_i hk
    unfold codeF at h
    split at h
    · rename_i h0
      obtain ⟨h1, _, h3, _⟩ := h0
      have he : x.es = [] := List.eq_nil_of_length_eq_zero (by omega)
      refine ⟨.inl hk, by rw [he]; simp, by omega, by omega, by omega, fun _ => ⟨he, h3⟩, by rw [he]; simp, by rw [he]; simp⟩
    · cases h
  · split at h
    · rename_i hk0 hk
      obtain ⟨hc, _, _, hE⟩ := or4_zero h
      unfold codeC at hc
      split at hc
      · cases hc
      · rename_i h1
        split at hc
        · cases hc
        · rename_i h2
          split at hc
          · cases hc
          · rename_i h3
            unfold codeEs at hE
            split at hE
            · cases hE
            · rename_i h4
              obtain ⟨e1, _, e3⟩ := codeDs_zero t _ _ hE
              refine ⟨.inr hk, by omega, by omega, by omega, by omega, fun hn => ?_, e1, e3⟩
              have h5 : ¬ (0 < x.es.length ∨ x.q ≠ 0) := fun h => h2 (.inr ⟨hn, h⟩)
              exact ⟨List.eq_nil_of_length_eq_zero (by omega), by omega⟩
    · cases h
theorem Ok1.fine {t : Tr} (h : Ok1 t) (n : Nat) : Fine t (nod t n) := by
  rcases Nat.lt_or_ge n t.length with hl | hl
  · exact fine_of (h.code n hl)
  · rw [nod_past hl]
    exact ⟨.inl rfl, by simp, by simp, by simp, by simp, fun _ => ⟨rfl, rfl⟩, by simp, by simp⟩
theorem used_iff {t : Tr} {i : Int} : used t i = true ↔ 0 ≤ i ∧ i.toNat < t.length ∧ (nod t i.toNat).k ≠ 0 := by
  unfold used
  rw [decide_eq_true_iff]
  constructor
  · rintro ⟨h1, h2, h3⟩; exact ⟨h1, by omega, h3⟩
  · rintro ⟨h1, h2, h3⟩; exact ⟨h1, by omega, h3⟩
theorem Ok1.kid {t : Tr} (h : Ok1 t) {n : Nat} {e : DE} (he : e ∈ kids t n) : vname e.n = true ∧ 0 < e.i ∧ e.i.toNat < t.length ∧ (nod t e.i.toNat).k ≠ 0 ∧ (nod t n).k = 1 := by
  obtain ⟨h1, h2, h3⟩ := (h.fine n).ent e he
  obtain ⟨u1, u2, u3⟩ := used_iff.1 h3
  refine ⟨h1, by omega, u2, u3, ?_⟩
  rcases Int.decEq (nod t n).k 1 with hk | hk
  · have := ((h.fine n).dir hk).1
    unfold kids at he
    rw [this] at he
    cases he
  · exact hk
theorem Ok1.rch {t : Tr} (h : Ok1 t) {s m : Nat} {xs : List ByteArray} (hr : Rch t s xs m) (hs : s < t.length) (hk : (nod t s).k ≠ 0) : m < t.length ∧ (nod t m).k ≠ 0 ∧ (∀ x ∈ xs, vname x = true) := by
  induction hr with
  | nil => exact ⟨hs, hk, by simp⟩
  | snoc _ he ih =>
    obtain ⟨k1, _, k3, k4, _⟩ := h.kid he
    refine ⟨k3, k4, ?_⟩
    intro x hx
    rcases List.mem_append.1 hx with hx | hx
    · exact ih.2.2 x hx
    · rw [List.mem_singleton.1 hx]; exact k1
theorem rch_inv {t : Tr} {s m : Nat} {ys : List ByteArray} (h : Rch t s ys m) : (ys = [] ∧ m = s) ∨ ∃ xs p e, ys = xs ++ [e.n] ∧ m = e.i.toNat ∧ Rch t s xs p ∧ e ∈ kids t p := by
  cases h with
  | nil => exact .inl ⟨rfl, rfl⟩
  | snoc h he => exact .inr ⟨_, _, _, rfl, rfl, h, he⟩

/-! ## Directories are referred to once -/
def codeK1 (t : Tr) : Prop := ∀ n, n < t.length → codeLk t n = 0
theorem one_parent {t : Tr} {m : Nat} (h : refs t m = 1) {p p' : Nat} {e e' : DE} (he : e ∈ kids t p) (he' : e' ∈ kids t p') (h1 : e.i = (m : Int)) (h2 : e'.i = (m : Int)) : p = p' ∧ e = e' := by
  have hp : ∀ {p : Nat} {e : DE}, e ∈ kids t p → p < t.length := by
    intro p e he
    rcases Nat.lt_or_ge p t.length with hl | hl
    · exact hl
    · unfold kids at he; rw [nod_past hl] at he; cases he
  have hmem : ∀ {p : Nat} {e : DE}, e ∈ kids t p → e ∈ t.flatMap (·.es) := by
    intro p e he
    refine List.mem_flatMap.2 ⟨nod t p, ?_, he⟩
    rw [nod_at (hp he)]; exact List.getElem_mem _
  constructor
  · have hs : refs t m = (t.map fun x => x.es.countP (fun e => decide (e.i = (m : Int)))).sum := by
      unfold refs; rw [List.countP_flatMap]; rfl
    have hone : ∀ {p : Nat} {e : DE}, e ∈ kids t p → e.i = (m : Int) → ∀ hq : p < (t.map fun x => x.es.countP (fun e => decide (e.i = (m : Int)))).length, 1 ≤ (t.map fun x => x.es.countP (fun e => decide (e.i = (m : Int))))[p] := by
      intro p e he hi hq
      rw [List.getElem_map, ← nod_at (hp he)]
      exact List.countP_pos_iff.2 ⟨e, he, by simpa using hi⟩
    have l1 : p < (t.map fun x => x.es.countP (fun e => decide (e.i = (m : Int)))).length := by simpa using hp he
    have l2 : p' < (t.map fun x => x.es.countP (fun e => decide (e.i = (m : Int)))).length := by simpa using hp he'
    rcases Nat.lt_trichotomy p p' with hl | hl | hl
    · have := sum_two _ p p' l1 l2 hl (hone he h1 l1) (hone he' h2 l2); omega
    · exact hl
    · have := sum_two _ p' p l2 l1 hl (hone he' h2 l2) (hone he h1 l1); omega
  · unfold refs at h
    rw [List.countP_eq_length_filter] at h
    obtain ⟨a, ha⟩ := List.length_eq_one_iff.1 h
    have m1 : e ∈ (t.flatMap (·.es)).filter (fun e => decide (e.i = (m : Int))) := List.mem_filter.2 ⟨hmem he, by simpa using h1⟩
    have m2 : e' ∈ (t.flatMap (·.es)).filter (fun e => decide (e.i = (m : Int))) := List.mem_filter.2 ⟨hmem he', by simpa using h2⟩
    rw [ha] at m1 m2
    rw [List.mem_singleton.1 m1, List.mem_singleton.1 m2]
/-- No entry leads to the root, and one at the most to a directory. -/
structure Ok2 (t : Tr) : Prop extends Ok1 t where
  refr : ∀ n, n < t.length → codeLk t n = 0
theorem Ok2.one {t : Tr} (h : Ok2 t) {m : Nat} (hm : m < t.length) (h0 : m ≠ 0) (hk : (nod t m).k = 1) : refs t m = 1 := by
  have := h.refr m hm
  unfold codeLk at this
  split at this
  · cases this
  · rename_i hn
    rcases Nat.decEq (refs t m) 1 with h1 | h1
    · exact absurd (.inl ⟨hk, h0, h1⟩) hn
    · exact h1
theorem Ok2.uniq {t : Tr} (h : Ok2 t) {m : Nat} {xs : List ByteArray} (hx : Rch t 0 xs m) : ∀ {ys : List ByteArray}, (nod t m).k = 1 → Rch t 0 ys m → xs = ys := by
  induction hx with
  | nil =>
    intro ys _ hy
    rcases rch_inv hy with ⟨rfl, _⟩ | ⟨us, p, e, rfl, hm, _, he⟩
    · rfl
    · have := (h.toOk1.kid he).2.1; omega
  | @snoc xs p e hx he ih =>
    intro ys hk hy
    obtain ⟨_, k2, k3, _, k5⟩ := h.toOk1.kid he
    rcases rch_inv hy with ⟨rfl, hm⟩ | ⟨us, p', e', rfl, hm, hy', he'⟩
    · omega
    · obtain ⟨_, j2, _⟩ := h.toOk1.kid he'
      have hone := h.one k3 (by omega) hk
      obtain ⟨rfl, rfl⟩ := one_parent hone he he' (by omega) (by omega)
      rw [ih k5 hy']
theorem Rch.prefix_ {t : Tr} {s m : Nat} {xs : List ByteArray} (h : Rch t s xs m) : ∀ k, k ≤ xs.length → ∃ p, Rch t s (xs.take k) p ∧ (k < xs.length → ∃ e, e ∈ kids t p) := by
  induction h with
  | nil => intro k hk; exact ⟨s, by simpa using .nil, fun h => absurd h (by simp)⟩
  | @snoc xs p e hx he ih =>
    intro k hk
    rcases Nat.lt_trichotomy k xs.length with hl | hl | hl
    · obtain ⟨q, h1, h2⟩ := ih k (by omega)
      exact ⟨q, by rw [List.take_append_of_le_length (by omega)]; exact h1, fun _ => h2 hl⟩
    · subst hl
      exact ⟨p, by rw [List.take_left']; exact hx; rfl, fun _ => ⟨e, he⟩⟩
    · have : k = (xs ++ [e.n]).length := by simp at hk ⊢; omega
      subst this
      exact ⟨_, by rw [List.take_length]; exact .snoc hx he, fun h => absurd h (by omega)⟩
theorem Ok2.fin {t : Tr} (h : Ok2 t) : Fin t 0 := by
  intro xs m hr
  have hp := hr.prefix_
  refine pigeon t.length xs.length (fun k => if hk : k ≤ xs.length then (hp k hk).choose else 0) (fun i hi => ?_) (fun i j hi hj e => ?_)
  · simp only [dif_pos (Nat.le_of_lt hi)]
    exact (h.toOk1.rch (hp i (Nat.le_of_lt hi)).choose_spec.1 h.ne (by rw [h.root]; simp)).1
  · simp only [dif_pos (Nat.le_of_lt hi), dif_pos (Nat.le_of_lt hj)] at e
    have h1 := (hp i (Nat.le_of_lt hi)).choose_spec
    have h2 := (hp j (Nat.le_of_lt hj)).choose_spec
    rw [← e] at h2
    obtain ⟨d, hd⟩ := h1.2 hi
    have := h.uniq h1.1 (h.toOk1.kid hd).2.2.2.2 h2.1
    have := congrArg List.length this
    simp at this
    omega

/-! ## From any inode that is reached -/
/-- Where a walk may start. -/
structure From (t : Tr) (s : Nat) : Prop where
  fin : Fin t s
  lt : s < t.length
  used : (nod t s).k ≠ 0
  uniq : ∀ xs ys m, (nod t m).k = 1 → Rch t s xs m → Rch t s ys m → xs = ys
theorem Ok2.from0 {t : Tr} (h : Ok2 t) : From t 0 := ⟨h.fin, h.ne, by rw [h.root]; simp, fun _ _ _ hk hx hy => h.uniq hx hk hy⟩
theorem Ok2.from_ {t : Tr} (h : Ok2 t) {zs : List ByteArray} {s : Nat} (hs : Rch t 0 zs s) : From t s := by
  obtain ⟨h1, h2, _⟩ := h.toOk1.rch hs h.ne (by rw [h.root]; simp)
  refine ⟨fun xs m hr => ?_, h1, h2, fun xs ys m hk hx hy => ?_⟩
  · have := h.fin _ _ (hs.trans hr)
    simp at this; omega
  · exact List.append_cancel_left (h.uniq (hs.trans hx) hk (hs.trans hy))

theorem nodup_sub {t : Tr} (h : Ok1 t) {s : Nat} (hf : Fin t s) : ∀ xs n, Rch t s xs n → (sub t xs n).Nodup := by
  refine sub_ind hf _ fun xs n hr ih => ?_
  rw [sub_eq hf hr]
  unfold List.Nodup
  rw [List.pairwise_cons, List.pairwise_flatMap]
  refine ⟨?_, fun e he => ih e he, ?_⟩
  · intro a ha e
    subst e
    obtain ⟨e, he, hm⟩ := List.mem_flatMap.1 ha
    obtain ⟨zs, hz, _⟩ := (mem_sub hf _ _ (.snoc hr he) _ _).1 hm
    have := congrArg List.length hz
    simp at this
  · refine List.Pairwise.imp_of_mem ?_ (h.fine n).srt
    intro a b ha hb hab x hx y hy e
    subst e
    obtain ⟨zs, hz, _⟩ := (mem_sub hf _ _ (.snoc hr ha) x.1 x.2).1 hx
    obtain ⟨us, hu, _⟩ := (mem_sub hf _ _ (.snoc hr hb) x.1 x.2).1 hy
    rw [hz, List.append_assoc, List.append_assoc] at hu
    have := List.append_cancel_left hu
    simp at this
    exact ltS_ne hab this.1
theorem nodup_visits {t : Tr} (h : Ok1 t) {s : Nat} (hf : Fin t s) : (visits t s).Nodup := nodup_sub h hf [] s .nil
theorem len_sub {t : Tr} {s : Nat} (hf : Fin t s) : ∀ xs n, Rch t s xs n → (sub t xs n).length = 1 + ((sub t xs n).map fun r => (kids t r.2).length).sum := by
  refine sub_ind hf _ fun xs n hr ih => ?_
  rw [sub_eq hf hr, List.map_cons, List.sum_cons, List.length_cons]
  have key : ∀ l : List DE, (∀ e ∈ l, e ∈ kids t n) → (l.flatMap fun e => sub t (xs ++ [e.n]) e.i.toNat).length = l.length + ((l.flatMap fun e => sub t (xs ++ [e.n]) e.i.toNat).map fun r => (kids t r.2).length).sum := by
    intro l
    induction l with
    | nil => intro _; simp
    | cons a l il =>
      intro hl
      have h1 := ih a (hl a (by simp))
      have h2 := il fun e he => hl e (by simp [he])
      simp only [List.flatMap_cons, List.length_append, List.map_append, List.sum_append, List.length_cons]
      omega
  have := key (kids t n) fun e he => he
  simp only at this ⊢
  omega
theorem len_visits {t : Tr} (h : Ok1 t) {s : Nat} (f : From t s) : (visits t s).length ≤ 641 := by
  have h1 := len_sub f.fin [] s .nil
  change (visits t s).length = 1 + ((visits t s).map fun r => (kids t r.2).length).sum at h1
  have hdir : ((visits t s).map fun r => (kids t r.2).length).sum = (((visits t s).filter fun r => decide ((nod t r.2).k = 1)).map fun r => (kids t r.2).length).sum := by
    induction visits t s with
    | nil => rfl
    | cons a l ih =>
      rw [List.map_cons, List.sum_cons, List.filter_cons]
      by_cases hk : (nod t a.2).k = 1
      · simp [hk, ih]
      · have : (kids t a.2).length = 0 := by unfold kids; rw [((h.fine a.2).dir hk).1]; rfl
        simp [hk, ih, this]
  have hnd : (((visits t s).filter fun r => decide ((nod t r.2).k = 1)).map (·.2)).Nodup := by
    unfold List.Nodup
    rw [List.pairwise_map]
    refine List.Pairwise.imp_of_mem ?_ ((nodup_visits h f.fin).filter _)
    intro a b ha hb hab e
    obtain ⟨ha1, ha2⟩ := List.mem_filter.1 ha
    obtain ⟨hb1, hb2⟩ := List.mem_filter.1 hb
    have r1 := (mem_visits f.fin (ys := a.1) (m := a.2)).1 ha1
    have r2 := (mem_visits f.fin (ys := b.1) (m := b.2)).1 hb1
    rw [← e] at r2
    have := f.uniq _ _ _ (by simpa using ha2) r1 r2
    exact hab (Prod.ext this e)
  have hlen := nodup_le (m := t.length) hnd (by
    intro x hx
    obtain ⟨r, hr, rfl⟩ := List.mem_map.1 hx
    exact (h.rch ((mem_visits f.fin (ys := r.1) (m := r.2)).1 (List.mem_filter.1 hr).1) f.lt f.used).1)
  have hsum := sum_le_mul (l := ((visits t s).filter fun r => decide ((nod t r.2).k = 1)).map fun r => (kids t r.2).length) (m := 16) (by
    intro x hx
    obtain ⟨r, _, rfl⟩ := List.mem_map.1 hx
    exact (h.fine r.2).len)
  rw [List.length_map] at hlen hsum
  have := h.le
  omega

end Go.Proofs.Ytndhhofidkaomaa
