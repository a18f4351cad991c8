/- Plain facts on merging: the two sides may change places; a merge with an unchanged side gives the other side. No program. -/
import Derived.Test.YtgbmbhcoelijfaaAttrPatch
import Derived.Test.YtgbmbhcoelijfaaAttrMerge
namespace Go.Proofs.Ytgbmbhcoelijfaa
open Go.RowKit

theorem flat_congr {α β : Type} {f g : α → List β} : ∀ (l : List α), (∀ x ∈ l, f x = g x) → l.flatMap f = l.flatMap g
  | [], _ => rfl
  | x :: r, h => by
    rw [List.flatMap_cons, List.flatMap_cons, h x (by simp), flat_congr r (fun y hy => h y (List.mem_cons_of_mem _ hy))]
theorem mrgN_swap (o a b : List Attr) : mrgN o a b = mrgN o b a := by
  refine asc_unique (names_asc _) (names_asc _) fun x => ?_
  unfold mrgN
  rw [names_mem, names_mem]
  constructor
  · rintro ⟨e, he, h⟩
    refine ⟨e, ?_, h⟩
    simp at he ⊢
    rcases he with h1 | h1 | h1
    · exact .inl h1
    · exact .inr (.inr h1)
    · exact .inr (.inl h1)
  · rintro ⟨e, he, h⟩
    refine ⟨e, ?_, h⟩
    simp at he ⊢
    rcases he with h1 | h1 | h1
    · exact .inl h1
    · exact .inr (.inr h1)
    · exact .inr (.inl h1)
theorem cfl_swap (o p q : ByteArray) : cfl o p q = cfl o q p := by
  unfold cfl
  rw [Bool.eq_iff_iff, decide_eq_true_iff, decide_eq_true_iff]
  exact ⟨fun ⟨h1, h2, h3⟩ => ⟨h2, h1, fun e => h3 e.symm⟩, fun ⟨h1, h2, h3⟩ => ⟨h2, h1, fun e => h3 e.symm⟩⟩
theorem cflL_swap (o a b : List Attr) : cflL o a b = cflL o b a := by
  unfold cflL cflK
  rw [mrgN_swap o a b]
  congr 1
  funext nm
  unfold cfl1
  rw [cfl_swap]
theorem mrgV_swap {o p q : ByteArray} (h : cfl o p q = false) : mrgV o p q = mrgV o q p := by
  unfold cfl at h
  rw [decide_eq_false_iff_not] at h
  unfold mrgV
  by_cases h1 : p = o
  · by_cases h2 : q = o
    · rw [if_pos h1, if_pos h2, h1, h2]
    · rw [if_pos h1, if_neg h2]
  · by_cases h2 : q = o
    · rw [if_neg h1, if_pos h2]
    · rw [if_neg h1, if_neg h2]
      by_cases h3 : p = q
      · exact h3
      · exact absurd ⟨h1, h2, h3⟩ h
theorem mrgL_swap {o a b : List Attr} (h : cflL o a b = []) : mrgL o a b = mrgL o b a := by
  unfold cflL cflK at h
  rw [List.take_length, List.flatMap_eq_nil_iff] at h
  unfold mrgL mrgK
  rw [← mrgN_swap o a b, List.take_length]
  have e : ∀ nm ∈ mrgN o a b, mrg1 o a b nm = mrg1 o b a nm := fun nm hnm => by
    have h1 := h nm hnm
    have hc : cfl (getA o nm) (getA a nm) (getA b nm) = false := by
      unfold cfl1 at h1
      cases hq : cfl (getA o nm) (getA a nm) (getA b nm) with
      | false => rfl
      | true => rw [hq, if_pos rfl] at h1; cases h1
    unfold mrg1
    rw [mrgV_swap hc]
  exact flat_congr _ e
theorem cflL_same (o a : List Attr) : cflL o a o = [] := by
  unfold cflL cflK
  rw [List.flatMap_eq_nil_iff]
  intro nm _
  unfold cfl1 cfl
  simp
theorem mrg1_same (o a : List Attr) (nm : ByteArray) : mrg1 o a o nm = presA ⟨nm, getA a nm⟩ := by
  unfold mrg1 mrgV
  split
  · rename_i h; rw [h]
  · rfl
/-- What a list gives name for name over ascending names that hold its own. -/
theorem gather {a : List Attr} (ha : Srt a) (hn : ∀ x ∈ a, x.v ≠ ByteArray.empty) : ∀ {N : List ByteArray}, Asc N → (∀ x ∈ a, x.n ∈ N) → N.flatMap (fun nm => presA ⟨nm, getA a nm⟩) = a := by
  intro N hN hsub
  have hmem : ∀ x, x ∈ N.flatMap (fun nm => presA ⟨nm, getA a nm⟩) ↔ x ∈ a := fun x => by
    rw [List.mem_flatMap]
    constructor
    · rintro ⟨nm, _, h2⟩
      unfold presA at h2
      split at h2
      · cases h2
      · rename_i h3
        rw [List.mem_singleton.1 h2]
        obtain ⟨y, hy, e1, e2⟩ := get_some h3
        have : (⟨nm, getA a nm⟩ : Attr) = y := by rw [e2, ← e1]
        rw [this]; exact hy
    · intro hx
      refine ⟨x.n, hsub x hx, ?_⟩
      rw [get_mem ha hx, presA_one (hn x hx)]
      exact List.mem_singleton.2 rfl
  have hsrt : Srt (N.flatMap (fun nm => presA ⟨nm, getA a nm⟩)) := by
    clear hsub hmem
    induction N with
    | nil => exact List.Pairwise.nil
    | cons n r ih =>
      unfold Asc at hN
      rw [List.pairwise_cons] at hN
      rw [List.flatMap_cons]
      unfold Srt
      rw [List.pairwise_append]
      refine ⟨by unfold presA; split <;> simp, ih hN.2, fun x hx y hy => ?_⟩
      have e1 : x.n = n := by unfold presA at hx; split at hx; cases hx; rw [List.mem_singleton.1 hx]
      obtain ⟨m, hm, hy2⟩ := List.mem_flatMap.1 hy
      have e2 : y.n = m := by unfold presA at hy2; split at hy2; cases hy2; rw [List.mem_singleton.1 hy2]
      rw [e1, e2]; exact hN.1 m hm
  refine same_of hsrt ha (fun x hx => hn x ((hmem x).1 hx)) hn fun nm => ?_
  by_cases h1 : getA a nm = ByteArray.empty
  · rw [h1]
    refine get_none fun x hx e => ?_
    have h2 := (hmem x).1 hx
    have := get_mem ha h2
    rw [e, h1] at this
    exact hn x h2 this.symm
  · obtain ⟨y, hy, e1, e2⟩ := get_some h1
    have := get_mem hsrt ((hmem y).2 hy)
    rw [e1] at this
    rw [this, e2]
theorem mrgL_same {o a : List Attr} (ha : Good a) : mrgL o a o = a := by
  unfold mrgL mrgK
  rw [List.take_length]
  have e : mrg1 o a o = fun nm => presA ⟨nm, getA a nm⟩ := by funext nm; exact mrg1_same o a nm
  rw [e]
  refine gather ha.srt ha.ne (names_asc _) fun x hx => ?_
  unfold mrgN
  rw [names_mem]
  exact ⟨x, by simp [hx], rfl⟩

theorem mrgF_ok {o a b : List Attr} (h : (mrgF o a b).1 = 0) : Good o ∧ Good a ∧ Good b ∧ mrgF o a b = (0, 0) ∧ mrgO o a b = mrgL o a b ∧ cflO o a b = cflL o a b := by
  have hc : (chkF [o, a, b]).1 = 0 := by
    by_cases hc : (chkF [o, a, b]).1 = 0
    · exact hc
    · unfold mrgF at h; rw [if_neg hc] at h; exact h
  obtain ⟨go, ga, gb, _⟩ := chk_three hc
  refine ⟨go, ga, gb, ?_, by unfold mrgO; rw [if_pos h], by unfold cflO; rw [if_pos h]⟩
  unfold mrgF at h ⊢
  rw [if_pos hc] at h ⊢
  split at h
  · cases h
  · rename_i hl; rw [if_neg hl]
theorem mrg_same_F {o a : List Attr} (go : Good o) (ga : Good a) : mrgF o a o = (0, 0) ∧ mrgO o a o = a ∧ cflO o a o = [] := by
  have hc : (chkF [o, a, o]).1 = 0 := by
    rw [chk_miss (xss := [o, a, o]) fun j hj => by
      match j, hj with
      | 0, _ => show (valA o).1 = 0; rw [go.val]
      | 1, _ => show (valA a).1 = 0; rw [ga.val]
      | 2, _ => show (valA o).1 = 0; rw [go.val]]
  have hf : mrgF o a o = (0, 0) := by
    unfold mrgF
    rw [if_pos hc, mrgL_same ga, if_neg (by have := ga.len; omega)]
  refine ⟨hf, ?_, ?_⟩
  · unfold mrgO; rw [hf, if_pos rfl, mrgL_same ga]
  · unfold cflO; rw [hf, if_pos rfl, cflL_same]

end Go.Proofs.Ytgbmbhcoelijfaa
