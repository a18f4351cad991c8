/- Plain facts on the paths of a valid tree: each path leads to one inode, no two paths are the same bytes, none is too long. No program. -/
import Derived.Test.YteomlacohddecaaGreatFsRow
import Derived.Test.YteomlacohddecaaGreatFsSort0

set_option linter.all false
namespace Go.Proofs.YteomlacohddecaaGreat
open Go.RowKit

theorem no47 {x : ByteArray} (h : vname x = true) : ∀ b ∈ x.data.toList, b ≠ 47 := by
  intro b hb e
  unfold vname at h
  rw [Bool.and_eq_true] at h
  have h2 := h.2
  unfold vbytes at h2
  rw [decide_eq_true_iff] at h2
  obtain ⟨j, hj, rfl⟩ := List.mem_iff_getElem.1 hb
  have hjs : j < x.size := by
    have e9 : x.data.toList.length = x.size := by simp
    rw [← e9]; exact hj
  have h3 := h2 j hjs
  have e2 : x[j] = 47 := by
    rw [← e]
    show x.data[j] = _
    simp
  rw [e2] at h3
  revert h3
  decide
theorem split47 : ∀ (a b c d : List UInt8), (∀ x ∈ a, x ≠ 47) → (∀ x ∈ b, x ≠ 47) → (c = [] ∨ ∃ r, c = 47 :: r) → (d = [] ∨ ∃ r, d = 47 :: r) → a ++ c = b ++ d → a = b ∧ c = d
  | [], [], _, _, _, _, _, _, h => ⟨rfl, h⟩
  | [], y :: b, c, d, _, hb, hc, _, h => by
    rcases hc with rfl | ⟨r, rfl⟩
    · simp at h
    · simp only [List.nil_append, List.cons_append] at h
      injection h with h1 _
      exact absurd h1.symm (hb y (by simp))
  | x :: a, [], c, d, ha, _, _, hd, h => by
    rcases hd with rfl | ⟨r, rfl⟩
    · simp at h
    · simp only [List.nil_append, List.cons_append] at h
      injection h with h1 _
      exact absurd h1 (ha x (by simp))
  | x :: a, y :: b, c, d, ha, hb, hc, hd, h => by
    simp only [List.cons_append] at h
    injection h with h1 h2
    obtain ⟨h3, h4⟩ := split47 a b c d (fun z hz => ha z (by simp [hz])) (fun z hz => hb z (by simp [hz])) hc hd h2
    exact ⟨by rw [h1, h3], h4⟩
theorem flatP_cons (x : ByteArray) (r : List ByteArray) : flatP (x :: r) = 47 :: (x.data.toList ++ flatP r) := by unfold flatP; rw [List.flatMap_cons]; rfl
theorem flatP_inj : ∀ (xs ys : List ByteArray), (∀ x ∈ xs, vname x = true) → (∀ y ∈ ys, vname y = true) → flatP xs = flatP ys → xs = ys
  | [], [], _, _, _ => rfl
  | [], y :: ys, _, _, h => by rw [flatP_cons] at h; simp [flatP] at h
  | x :: xs, [], _, _, h => by rw [flatP_cons] at h; simp [flatP] at h
  | x :: xs, y :: ys, hx, hy, h => by
    rw [flatP_cons, flatP_cons] at h
    injection h with _ h
    have hh : ∀ l : List ByteArray, flatP l = [] ∨ ∃ r, flatP l = 47 :: r := fun l => by
      cases l with
      | nil => exact .inl rfl
      | cons z l => exact .inr ⟨_, flatP_cons z l⟩
    obtain ⟨h1, h2⟩ := split47 _ _ _ _ (no47 (hx x (by simp))) (no47 (hy y (by simp))) (hh xs) (hh ys) h
    rw [bytes_ext h1, flatP_inj xs ys (fun z hz => hx z (by simp [hz])) (fun z hz => hy z (by simp [hz])) h2]
theorem bP_inj {xs ys : List ByteArray} (hx : ∀ x ∈ xs, vname x = true) (hy : ∀ y ∈ ys, vname y = true) (h : bP xs = bP ys) : xs = ys := by
  by_cases h1 : xs = []
  · by_cases h2 : ys = []
    · rw [h1, h2]
    · exact absurd (h.symm.trans (by rw [h1]; rfl)) (bP_ne h2 hy)
  · by_cases h2 : ys = []
    · exact absurd (h.trans (by rw [h2]; rfl)) (bP_ne h1 hx)
    · have e := congrArg (fun b : ByteArray => b.data.toList) h
      simp only [bP] at e
      rw [pstr_flat h1, pstr_flat h2] at e
      exact flatP_inj xs ys hx hy e
theorem Rch.last {t : Tr} {s m : Nat} {zs : List ByteArray} (h : Rch t s zs m) : (zs = [] ∧ m = s) ∨ ∃ xs p e, Rch t s xs p ∧ e ∈ kids t p ∧ zs = xs ++ [e.n] ∧ m = e.i.toNat := by
  cases h with
  | nil => exact .inl ⟨rfl, rfl⟩
  | snoc h he => exact .inr ⟨_, _, _, h, he, rfl, rfl⟩
theorem Rch.end_ {t : Tr} (h1 : Ok1 t) {s : Nat} : ∀ (n : Nat) {zs : List ByteArray} {m k : Nat}, zs.length = n → Rch t s zs m → Rch t s zs k → m = k
  | 0, zs, m, k, hz, a, b => by
    have : zs = [] := List.eq_nil_of_length_eq_zero hz
    subst this
    rcases a.last with ⟨_, rfl⟩ | ⟨xs, p, e, _, _, hh, _⟩
    · rcases b.last with ⟨_, rfl⟩ | ⟨xs, p, e, _, _, hh, _⟩
      · rfl
      · simp at hh
    · simp at hh
  | n + 1, zs, m, k, hz, a, b => by
    rcases a.last with ⟨rfl, _⟩ | ⟨xs, p, e, ha, he, rfl, rfl⟩
    · simp at hz
    · rcases b.last with ⟨hh, _⟩ | ⟨ys, q, f, hb, hf, hh, rfl⟩
      · simp at hh
      · obtain ⟨h2, h3⟩ := List.append_inj' hh rfl
        subst h2
        have hpq := Rch.end_ h1 n (by simpa using hz) ha hb
        subst hpq
        have h4 : e.n = f.n := by simpa using h3
        have hef : e = f := by
          obtain ⟨i, hi, rfl⟩ := List.mem_iff_getElem.1 he
          obtain ⟨j, hj, rfl⟩ := List.mem_iff_getElem.1 hf
          rcases Nat.lt_trichotomy i j with hl | hl | hl
          · exact absurd h4 (ltS_ne (List.pairwise_iff_getElem.1 (h1.fine p).srt i j hi hj hl))
          · subst hl; rfl
          · exact absurd h4.symm (ltS_ne (List.pairwise_iff_getElem.1 (h1.fine p).srt j i hj hi hl))
        rw [hef]
/-- The paths of the visits whose inode is wanted. -/
def pathsW (want : Nat → Bool) (L : List Vis) : List ByteArray := (L.filter fun p => want p.2).map fun p => bP p.1
theorem pathsW_snoc (want : Nat → Bool) (L : List Vis) (p : Vis) : pathsW want (L ++ [p]) = if want p.2 = true then pathsW want L ++ [bP p.1] else pathsW want L := by
  unfold pathsW
  rw [List.filter_append, List.map_append]
  by_cases h : want p.2 = true <;> simp [h]
theorem pathsW_mem {want : Nat → Bool} {L M : List Vis} (h : L.Perm M) (x : ByteArray) : x ∈ pathsW want L ↔ x ∈ pathsW want M := by
  unfold pathsW
  rw [List.mem_map, List.mem_map]
  constructor
  · rintro ⟨p, hp, e⟩
    obtain ⟨h1, h2⟩ := List.mem_filter.1 hp
    exact ⟨p, List.mem_filter.2 ⟨h.mem_iff.1 h1, h2⟩, e⟩
  · rintro ⟨p, hp, e⟩
    obtain ⟨h1, h2⟩ := List.mem_filter.1 hp
    exact ⟨p, List.mem_filter.2 ⟨h.mem_iff.2 h1, h2⟩, e⟩
theorem pathsW_len (want : Nat → Bool) (L : List Vis) : (pathsW want L).length ≤ L.length := by
  unfold pathsW; rw [List.length_map]; exact List.length_filter_le _ _
theorem vis_names {t : Tr} (h1 : Ok1 t) {s : Nat} (fr : From t s) {p : Vis} (hp : p ∈ visits t s) : (∀ x ∈ p.1, vname x = true) ∧ p.2 < t.length ∧ p.1.length ≤ 40 := by
  have hr := (mem_visits fr.fin (ys := p.1) (m := p.2)).1 hp
  obtain ⟨h2, _, h3⟩ := h1.rch hr fr.lt fr.used
  exact ⟨h3, h2, Nat.le_trans (fr.fin _ _ hr) h1.le⟩
theorem pathsW_nodup {t : Tr} (h1 : Ok1 t) {s : Nat} (fr : From t s) (want : Nat → Bool) {L : List Vis} (hL : (visits t s).Perm L) : (pathsW want L).Nodup := by
  have hn : L.Nodup := hL.nodup_iff.1 (nodup_visits h1 fr.fin)
  unfold pathsW List.Nodup
  rw [List.pairwise_map]
  refine List.Pairwise.imp_of_mem ?_ (hn.filter _)
  intro a b ha hb hab e
  have ha2 := hL.mem_iff.2 (List.mem_filter.1 ha).1
  have hb2 := hL.mem_iff.2 (List.mem_filter.1 hb).1
  have e1 := bP_inj (vis_names h1 fr ha2).1 (vis_names h1 fr hb2).1 e
  have ra := (mem_visits fr.fin (ys := a.1) (m := a.2)).1 ha2
  have rb := (mem_visits fr.fin (ys := b.1) (m := b.2)).1 hb2
  rw [e1] at ra
  exact hab (Prod.ext e1 (Rch.end_ h1 _ rfl ra rb))
theorem pathsW_fits {t : Tr} (h1 : Ok1 t) {s : Nat} (fr : From t s) {want : Nat → Bool} {L : List Vis} (hL : (visits t s).Perm L) : ∀ x ∈ pathsW want L, x.size ≤ maxLen := by
  intro x hx
  unfold pathsW at hx
  obtain ⟨p, hp, rfl⟩ := List.mem_map.1 hx
  have := vis_names h1 fr (hL.mem_iff.2 (List.mem_filter.1 hp).1)
  have h3 := bP_size this.1
  have := this.2.2
  unfold maxLen; omega
theorem Pass.joins {t : Tr} (h : Head t) (p : Pass t 4) {xs : List ByteArray} {n : Nat} (hr : Rch t 0 xs n) : joinV xs = .tuple #[.string (bP xs), faultV 0 0] := by
  have o2 := Pass.ok2 h (p.mono (by omega))
  obtain ⟨hn, hk, hv⟩ := o2.toOk1.rch hr o2.ne (by rw [o2.root]; decide)
  have hc : codeP t n = 0 := p 2 (by omega) n hn
  have hm : (xs, n) ∈ visits t 0 := (mem_visits o2.fin).2 hr
  have hf : farL (visits t 0) n = false := by
    unfold codeP at hc
    split at hc
    · cases hc
    · split at hc
      · cases hc
      · rename_i h3; simpa using h3
  have ht : tooFar xs = false := by
    cases hh : tooFar xs with
    | false => rfl
    | true =>
      have : farL (visits t 0) n = true := by
        unfold farL
        rw [List.any_eq_true]
        exact ⟨_, hm, by simp [hh]⟩
      rw [hf] at this; cases this
  have hj : (joinF xs).1 = 0 := by
    unfold tooFar at ht
    simpa using ht
  unfold joinV joinS bP
  unfold joinF at hj ⊢
  by_cases hc0 : (compFault xs).1 = 0
  · rw [if_pos hc0] at hj
    by_cases hl : 100 < (pstr xs).length
    · rw [if_pos hl] at hj; cases hj
    · rw [if_pos hc0, if_pos hc0, if_neg hl, if_neg hl]
  · rw [if_neg hc0] at hj
    exact absurd hj hc0

end Go.Proofs.YteomlacohddecaaGreat
