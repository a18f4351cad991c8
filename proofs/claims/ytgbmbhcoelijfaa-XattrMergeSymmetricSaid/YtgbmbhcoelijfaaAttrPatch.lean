/- Plain facts: what a list is by its names and values; setting changes one name; setting what Diff lists, removals first, leads from one list to the other. No program. -/
import Derived.Test.YtgbmbhcoelijfaaAttrSet
import Derived.Test.YtgbmbhcoelijfaaAttrDiff
namespace Go.Proofs.Ytgbmbhcoelijfaa
open Go.RowKit

theorem get_mem {xs : List Attr} (h : Srt xs) {x : Attr} (hx : x ∈ xs) : getA xs x.n = x.v := by
  obtain ⟨j, hj, rfl⟩ := List.mem_iff_getElem.1 hx
  rw [← atD hj]
  exact getA_hit hj rfl fun i hi => ltS_ne (srt_at h hi hj)
theorem get_none {xs : List Attr} {nm : ByteArray} (h : ∀ x ∈ xs, x.n ≠ nm) : getA xs nm = ByteArray.empty :=
  getA_miss fun _ hj => h _ (atD_mem hj)
theorem get_some {xs : List Attr} {nm : ByteArray} (h : getA xs nm ≠ ByteArray.empty) : ∃ x ∈ xs, x.n = nm ∧ getA xs nm = x.v := by
  unfold getA at h ⊢
  cases hf : xs.find? (fun a => decide (a.n = nm)) with
  | none => rw [hf] at h; exact absurd rfl h
  | some x =>
    have h1 := List.find?_some hf
    exact ⟨x, List.mem_of_find?_eq_some hf, by simpa using h1, rfl⟩
theorem names_of {xs : List Attr} (hn : ∀ x ∈ xs, x.v ≠ ByteArray.empty) (hs : Srt xs) (nm : ByteArray) : nm ∈ xs.map (·.n) ↔ getA xs nm ≠ ByteArray.empty := by
  rw [List.mem_map]
  constructor
  · rintro ⟨x, hx, rfl⟩; rw [get_mem hs hx]; exact hn x hx
  · intro h
    obtain ⟨x, hx, e, _⟩ := get_some h
    exact ⟨x, hx, e⟩
theorem asc_names {xs : List Attr} (hs : Srt xs) : Asc (xs.map (·.n)) := by
  unfold Asc; rw [List.pairwise_map]; exact hs
theorem back {xs : List Attr} (hs : Srt xs) : (xs.map (·.n)).map (fun nm => (⟨nm, getA xs nm⟩ : Attr)) = xs := by
  rw [List.map_map]
  conv => rhs; rw [← List.map_id xs]
  refine List.map_congr_left fun x hx => ?_
  show (⟨x.n, getA xs x.n⟩ : Attr) = x
  rw [get_mem hs hx]
theorem same_of {xs ys : List Attr} (hx : Srt xs) (hy : Srt ys) (nx : ∀ x ∈ xs, x.v ≠ ByteArray.empty) (ny : ∀ x ∈ ys, x.v ≠ ByteArray.empty) (h : ∀ nm, getA xs nm = getA ys nm) : xs = ys := by
  have hn : xs.map (·.n) = ys.map (·.n) := asc_unique (asc_names hx) (asc_names hy) fun nm => by
    rw [names_of nx hx, names_of ny hy, h]
  rw [← back hx, ← back hy, hn]
  exact List.map_congr_left fun nm _ => by rw [h]
theorem asc_len : ∀ {ys xs : List ByteArray}, Asc xs → Asc ys → (∀ x ∈ xs, x ∈ ys) → xs.length ≤ ys.length
  | [], [], _, _, _ => Nat.le_refl _
  | [], x :: xs, _, _, h => absurd (h x (by simp)) (by simp)
  | y :: ys, [], _, _, _ => Nat.zero_le _
  | y :: ys, x :: xs, hx, hy, h => by
    unfold Asc at hx hy
    rw [List.pairwise_cons] at hx hy
    have := asc_len (ys := ys) (xs := xs) hx.2 hy.2 (fun z hz => by
      rcases List.mem_cons.1 (h z (List.mem_cons_of_mem _ hz)) with e | h1
      · exfalso
        subst e
        have h2 := hx.1 z hz
        rcases List.mem_cons.1 (h x (by simp)) with e2 | h3
        · subst e2; rw [ltS_irrefl] at h2; cases h2
        · have := ltS_asymm (hy.1 x h3)
          rw [h2] at this; cases this
      · exact h1)
    simp; omega

/-- Setting: sorted, nothing empty, one name changed. -/
theorem set_srt {xs : List Attr} (h : Srt xs) (e : Attr) : Srt (setL xs e) := by
  unfold setL Srt
  rw [List.pairwise_append, List.pairwise_append]
  refine ⟨⟨List.Pairwise.filter _ h, ?_, fun a ha b hb => ?_⟩, List.Pairwise.filter _ h, fun a ha b hb => ?_⟩
  · unfold presA; split <;> simp
  · have h1 := (List.mem_filter.1 ha).2
    have : b = e := by unfold presA at hb; split at hb; cases hb; exact List.mem_singleton.1 hb
    rw [this]; exact h1
  · have h2 := (List.mem_filter.1 hb).2
    rcases List.mem_append.1 ha with ha | ha
    · exact ltS_trans (List.mem_filter.1 ha).2 h2
    · have : a = e := by unfold presA at ha; split at ha; cases ha; exact List.mem_singleton.1 ha
      rw [this]; exact h2
theorem set_mem {xs : List Attr} {e x : Attr} (h : x ∈ setL xs e) : (x ∈ xs ∧ x.n ≠ e.n) ∨ (x = e ∧ e.v ≠ ByteArray.empty) := by
  unfold setL at h
  rw [List.mem_append, List.mem_append] at h
  rcases h with (h | h) | h
  · obtain ⟨h1, h2⟩ := List.mem_filter.1 h
    exact .inl ⟨h1, ltS_ne h2⟩
  · unfold presA at h
    split at h
    · cases h
    · rename_i h2; exact .inr ⟨List.mem_singleton.1 h, h2⟩
  · obtain ⟨h1, h2⟩ := List.mem_filter.1 h
    exact .inl ⟨h1, (ltS_ne h2).symm⟩
theorem mem_set {xs : List Attr} {e x : Attr} (h : (x ∈ xs ∧ x.n ≠ e.n) ∨ (x = e ∧ e.v ≠ ByteArray.empty)) : x ∈ setL xs e := by
  unfold setL
  rw [List.mem_append, List.mem_append]
  rcases h with ⟨h1, h2⟩ | ⟨h1, h2⟩
  · cases h3 : ltS x.n e.n with
    | true => exact .inl (.inl (List.mem_filter.2 ⟨h1, h3⟩))
    | false => exact .inr (List.mem_filter.2 ⟨h1, ltS_of h3 h2⟩)
  · subst h1
    exact .inl (.inr (by rw [presA_one h2]; simp))
theorem set_ne {xs : List Attr} (h : ∀ x ∈ xs, x.v ≠ ByteArray.empty) (e : Attr) : ∀ x ∈ setL xs e, x.v ≠ ByteArray.empty := by
  intro x hx
  rcases set_mem hx with ⟨h1, _⟩ | ⟨h1, h2⟩
  · exact h x h1
  · rw [h1]; exact h2
theorem set_get {xs : List Attr} (h : Srt xs) (e : Attr) (nm : ByteArray) : getA (setL xs e) nm = if nm = e.n then e.v else getA xs nm := by
  split
  · rename_i hn
    subst hn
    by_cases he : e.v = ByteArray.empty
    · rw [he]
      refine get_none fun x hx hxe => ?_
      rcases set_mem hx with ⟨_, h2⟩ | ⟨_, h2⟩
      · exact h2 hxe
      · exact h2 he
    · exact get_mem (set_srt h e) (mem_set (.inr ⟨rfl, he⟩))
  · rename_i hn
    by_cases hg : getA xs nm = ByteArray.empty
    · rw [hg]
      by_cases hg2 : getA (setL xs e) nm = ByteArray.empty
      · exact hg2
      · exfalso
        obtain ⟨x, hx, e1, e2⟩ := get_some hg2
        rcases set_mem hx with ⟨h1, _⟩ | ⟨h1, _⟩
        · have := get_mem h h1
          rw [e1, hg] at this
          rw [e2, ← this] at hg2
          exact hg2 rfl
        · rw [h1] at e1; exact hn e1.symm
    · obtain ⟨x, hx, e1, e2⟩ := get_some hg
      have := get_mem (set_srt h e) (mem_set (e := e) (.inl ⟨hx, by rw [e1]; exact hn⟩))
      rw [e1] at this
      rw [this, e2]
theorem set_len_rm {xs : List Attr} {e : Attr} (h : Srt xs) (he : e.v = ByteArray.empty) : (setL xs e).length ≤ xs.length := by
  have := asc_len (asc_names (set_srt h e)) (asc_names h) (fun nm hnm => by
    obtain ⟨x, hx, rfl⟩ := List.mem_map.1 hnm
    rcases set_mem hx with ⟨h1, _⟩ | ⟨_, h2⟩
    · exact List.mem_map.2 ⟨x, h1, rfl⟩
    · exact absurd he h2)
  simpa using this
theorem len_get {xs ys : List Attr} (hx : Srt xs) (hy : Srt ys) (nx : ∀ x ∈ xs, x.v ≠ ByteArray.empty) (ny : ∀ x ∈ ys, x.v ≠ ByteArray.empty) (h : ∀ nm, getA xs nm ≠ ByteArray.empty → getA ys nm ≠ ByteArray.empty) : xs.length ≤ ys.length := by
  have := asc_len (asc_names hx) (asc_names hy) (fun nm hnm => (names_of ny hy nm).2 (h nm ((names_of nx hx nm).1 hnm)))
  simpa using this

/-- An attribute that is handled in round k: those with no value in round 0, the others in round 1. -/
def sel (k : Nat) (e : Attr) : Bool := decide (e.v = ByteArray.empty) == decide (k = 0)
/-- What Diff lists. -/
theorem diff_mem {a b : List Attr} {e : Attr} (h : e ∈ diffL a b) : e.v = getA b e.n ∧ getA b e.n ≠ getA a e.n := by
  unfold diffL diffK at h
  obtain ⟨nm, _, h2⟩ := List.mem_flatMap.1 h
  unfold dif1 at h2
  split at h2
  · cases h2
  · rename_i hne
    rw [List.mem_singleton.1 h2]
    exact ⟨rfl, hne⟩
theorem mem_diff {a b : List Attr} {nm : ByteArray} (h : getA b nm ≠ getA a nm) : (⟨nm, getA b nm⟩ : Attr) ∈ diffL a b := by
  unfold diffL diffK
  rw [List.take_length, List.mem_flatMap]
  refine ⟨nm, ?_, by unfold dif1; rw [if_neg h]; simp⟩
  rw [names_mem]
  by_cases h1 : getA b nm = ByteArray.empty
  · have h2 : getA a nm ≠ ByteArray.empty := fun e => h (by rw [h1, e])
    obtain ⟨x, hx, e, _⟩ := get_some h2
    exact ⟨x, by simp [hx], e⟩
  · obtain ⟨x, hx, e, _⟩ := get_some h1
    exact ⟨x, by simp [hx], e⟩
theorem diff_code {a b : List Attr} (ha : Good a) (hb : Good b) {e : Attr} (h : e ∈ diffL a b) : codeA e = 0 := by
  obtain ⟨h1, h2⟩ := diff_mem h
  have hv : e.v.size ≤ 20 := by
    rw [h1]
    by_cases h3 : getA b e.n = ByteArray.empty
    · rw [h3]; simp
    · obtain ⟨x, hx, _, e2⟩ := get_some h3
      rw [e2]; exact (codeA_ok (hb.code x hx)).2
  have hn : vname e.n = true := by
    by_cases h3 : getA b e.n = ByteArray.empty
    · have h4 : getA a e.n ≠ ByteArray.empty := fun e' => h2 (by rw [h3, e'])
      obtain ⟨x, hx, e1, _⟩ := get_some h4
      rw [← e1]; exact ha.name hx
    · obtain ⟨x, hx, e1, _⟩ := get_some h3
      rw [← e1]; exact hb.name hx
  unfold codeA
  rw [if_pos hn, if_neg (by omega)]
/-- The list after i attributes of round k. -/
structure PatI (a b : List Attr) (k i : Nat) (now : List Attr) : Prop where
  good : Good now
  done : ∀ j, j < i → sel k ((diffL a b).getD j A0) = true → getA now ((diffL a b).getD j A0).n = ((diffL a b).getD j A0).v
  past : ∀ e ∈ diffL a b, k = 1 → sel 0 e = true → getA now e.n = e.v
  either : ∀ nm, getA now nm = getA a nm ∨ getA now nm = getA b nm
  inb : k = 1 → ∀ nm, getA now nm ≠ ByteArray.empty → getA b nm ≠ ByteArray.empty
theorem pat_start {a b : List Attr} (ha : Good a) : PatI a b 0 0 a :=
  ⟨ha, fun j hj => absurd hj (by omega), fun _ _ h => absurd h (by simp), fun _ => .inl rfl, fun h => absurd h (by simp)⟩
theorem pat_skip {a b now : List Attr} {k i : Nat} (I : PatI a b k i now) (h : sel k ((diffL a b).getD i A0) = false) : PatI a b k (i + 1) now :=
  ⟨I.good, fun j hj hs => by
    by_cases e : j = i
    · subst e; rw [h] at hs; cases hs
    · exact I.done j (by omega) hs, I.past, I.either, I.inb⟩
theorem pat_next {a b now : List Attr} {n : Nat} (hn : n = (diffL a b).length) (I : PatI a b 0 n now) : PatI a b 1 0 now := by
  subst hn
  have hp : ∀ e ∈ diffL a b, sel 0 e = true → getA now e.n = e.v := fun e he hs => by
    obtain ⟨j, hj, rfl⟩ := List.mem_iff_getElem.1 he
    have := I.done j hj
    rw [atD hj] at this
    exact this hs
  refine ⟨I.good, fun j hj => absurd hj (by omega), fun e he _ hs => hp e he hs, I.either, fun _ nm hg hb => ?_⟩
  rcases I.either nm with h1 | h1
  · by_cases h2 : getA b nm = getA a nm
    · rw [h1, ← h2] at hg; exact hg hb
    · have := hp _ (mem_diff h2) (by unfold sel; simp [hb])
      simp only at this
      rw [this] at hg; exact hg hb
  · rw [h1] at hg; exact hg hb
theorem pat_step {a b now : List Attr} {k i : Nat} (hk : k ≤ 1) (ha : Good a) (hb : Good b) (I : PatI a b k i now) (hi : i < (diffL a b).length) (h : sel k ((diffL a b).getD i A0) = true) :
    setF now ((diffL a b).getD i A0) = (0, 0) ∧ PatI a b k (i + 1) (setL now ((diffL a b).getD i A0)) := by
  have hm := atD_mem hi
  have hcode := diff_code ha hb hm
  obtain ⟨d1, d2⟩ := diff_mem hm
  have hdone := I.done
  generalize he : (diffL a b).getD i A0 = e at *
  have hsrt := set_srt I.good.srt e
  have hne := set_ne I.good.ne e
  have hget := set_get I.good.srt e
  have hinb : k = 1 → ∀ nm, getA (setL now e) nm ≠ ByteArray.empty → getA b nm ≠ ByteArray.empty := fun hk1 nm hg => by
    rw [hget] at hg
    split at hg
    · rename_i hn; rw [hn, ← d1]; exact hg
    · exact I.inb hk1 nm hg
  have hlen : (setL now e).length ≤ 6 := by
    rcases (show k = 0 ∨ k = 1 by omega) with rfl | rfl
    · have hv : e.v = ByteArray.empty := by unfold sel at h; simpa using h
      exact Nat.le_trans (set_len_rm I.good.srt hv) I.good.len
    · exact Nat.le_trans (len_get hsrt hb.srt hne hb.ne (hinb rfl)) hb.len
  have hcodes : ∀ x ∈ setL now e, codeA x = 0 := fun x hx => by
    rcases set_mem hx with ⟨h1, _⟩ | ⟨h1, _⟩
    · exact I.good.code x h1
    · rw [h1]; exact hcode
  refine ⟨?_, ⟨⟨hlen, hcodes, hne, hsrt⟩, fun j hj hs => ?_, fun e' he' hk1 hs => ?_, fun nm => ?_, hinb⟩⟩
  · unfold setF; rw [I.good.val, if_pos rfl, if_pos hcode, if_neg (by omega)]
  · rw [hget]
    split
    · rename_i hn
      have hj2 : (diffL a b).getD j A0 ∈ diffL a b := atD_mem (by omega)
      rw [(diff_mem hj2).1, hn, ← d1]
    · rename_i hn
      refine hdone j ?_ hs
      by_cases e2 : j = i
      · subst e2; rw [he] at hn; exact absurd rfl hn
      · omega
  · rw [hget]
    split
    · rename_i hn; rw [(diff_mem he').1, hn, ← d1]
    · exact I.past e' he' hk1 hs
  · rw [hget]
    split
    · rename_i hn; right; rw [hn, ← d1]
    · exact I.either nm
theorem pat_end {a b now : List Attr} {n : Nat} (hb : Good b) (hn : n = (diffL a b).length) (I : PatI a b 1 n now) : now = b := by
  subst hn
  refine same_of I.good.srt hb.srt I.good.ne hb.ne fun nm => ?_
  by_cases h2 : getA b nm = getA a nm
  · rcases I.either nm with h | h
    · rw [h, h2]
    · exact h
  · have hm := mem_diff h2
    by_cases hv : getA b nm = ByteArray.empty
    · exact I.past _ hm rfl (by unfold sel; simp [hv])
    · obtain ⟨j, hj, e⟩ := List.mem_iff_getElem.1 hm
      have := I.done j hj
      rw [atD hj, e] at this
      exact this (by unfold sel; simp [hv])
theorem diff_self (a : List Attr) : diffL a a = [] := by
  unfold diffL diffK
  rw [List.flatMap_eq_nil_iff]
  intro nm _
  unfold dif1
  rw [if_pos rfl]

end Go.Proofs.Ytgbmbhcoelijfaa
