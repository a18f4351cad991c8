/- Plain facts on setting an attribute in a sorted list: the list in three parts, and the reference's way, attribute by attribute. No program. -/
import Derived.Test.YtfealpehdjeckaaDoorAttrConcat
import Derived.Test.YtfealpehdjeckaaDoorAttrGet
namespace Go.Proofs.YtfealpehdjeckaaDoor
open Go.RowKit

/-- The list with the attribute a, or without it if its value is empty. -/
def setL (xs : List Attr) (a : Attr) : List Attr := xs.filter (fun x => ltS x.n a.n) ++ presA a ++ xs.filter (fun x => ltS a.n x.n)

theorem filter_split (p : Attr → Bool) : ∀ (l : List Attr) (i : Nat), (∀ j, j < i → j < l.length → p (l.getD j A0) = true) → (∀ j, i ≤ j → j < l.length → p (l.getD j A0) = false) → l.filter p = l.take i
  | [], _, _, _ => by simp
  | a :: r, 0, _, h2 => by
    have ha : p a = false := by simpa using h2 0 (Nat.le_refl _) (by simp)
    have := filter_split p r 0 (fun j hj => absurd hj (Nat.not_lt_zero _)) (fun j _ hj => by simpa using h2 (j + 1) (Nat.zero_le _) (by simpa using hj))
    simp [ha] at this ⊢; exact this
  | a :: r, i + 1, h1, h2 => by
    have ha : p a = true := by simpa using h1 0 (Nat.succ_pos _) (by simp)
    have := filter_split p r i (fun j hj hl => by simpa using h1 (j + 1) (by omega) (by simpa using hl)) (fun j hij hj => by simpa using h2 (j + 1) (by omega) (by simpa using hj))
    simp [ha, this]
theorem filter_drop (p : Attr → Bool) : ∀ (l : List Attr) (i : Nat), (∀ j, j < i → j < l.length → p (l.getD j A0) = false) → (∀ j, i ≤ j → j < l.length → p (l.getD j A0) = true) → l.filter p = l.drop i
  | [], _, _, _ => by simp
  | a :: r, 0, _, h2 => by
    have ha : p a = true := by simpa using h2 0 (Nat.le_refl _) (by simp)
    have := filter_drop p r 0 (fun j hj => absurd hj (Nat.not_lt_zero _)) (fun j _ hj => by simpa using h2 (j + 1) (Nat.zero_le _) (by simpa using hj))
    simp [ha] at this ⊢; exact this
  | a :: r, i + 1, h1, h2 => by
    have ha : p a = false := by simpa using h1 0 (Nat.succ_pos _) (by simp)
    have := filter_drop p r i (fun j hj hl => by simpa using h1 (j + 1) (by omega) (by simpa using hl)) (fun j hij hj => by simpa using h2 (j + 1) (by omega) (by simpa using hj))
    simp [ha, this]
theorem filter_lo {xs : List Attr} (h : Srt xs) (nm : ByteArray) : xs.filter (fun x => ltS x.n nm) = xs.take (lowB xs nm) :=
  filter_split _ xs _ (fun j hj _ => (lowB_lo h nm).1 j hj) (fun j h1 h2 => (lowB_lo h nm).2 j h1 h2)
theorem filter_hi {xs : List Attr} (h : Srt xs) (nm : ByteArray) : xs.filter (fun x => ltS nm x.n) = xs.drop (if fnd xs nm = true then lowB xs nm + 1 else lowB xs nm) := by
  obtain ⟨l1, l2⟩ := lowB_lo h nm
  cases hf : fnd xs nm with
  | true =>
    obtain ⟨f1, f2⟩ := fnd_iff.1 hf
    rw [if_pos rfl]
    refine filter_drop _ xs _ (fun j hj hl => ?_) (fun j hj hl => ?_)
    · by_cases e : j = lowB xs nm
      · subst e; rw [f2]; exact ltS_irrefl _
      · exact ltS_asymm (l1 j (by omega))
    · have := srt_at h (i := lowB xs nm) (j := j) (by omega) hl
      rwa [f2] at this
  | false =>
    rw [if_neg (by simp)]
    refine filter_drop _ xs _ (fun j hj hl => ltS_asymm (l1 j hj)) (fun j hj hl => ?_)
    refine ltS_of (l2 j hj hl) ?_
    intro e
    have hg : ¬ (lowB xs nm < xs.length ∧ (xs.getD (lowB xs nm) A0).n = nm) := fun h => by rw [fnd_iff.2 h] at hf; cases hf
    by_cases e2 : j = lowB xs nm
    · subst e2; exact hg ⟨hl, e⟩
    · have h3 := srt_at h (i := lowB xs nm) (j := j) (by omega) hl
      rw [e, l2 _ (Nat.le_refl _) (by omega)] at h3
      cases h3
/-- The three parts, as Set cuts them. -/
theorem setL_cut {xs : List Attr} (h : Srt xs) (a : Attr) : [xs.take (lowB xs a.n), presA a, xs.drop (if fnd xs a.n = true then lowB xs a.n + 1 else lowB xs a.n)].flatten = setL xs a := by
  unfold setL
  rw [filter_lo h, filter_hi h]
  simp

/-- A name that is not less than a's stands among the first k. -/
def geK (xs : List Attr) (a : Attr) (k : Nat) : Bool := (xs.take k).any (fun x => !ltS x.n a.n)
/-- What the reference has laid after k attributes. -/
def outK (xs : List Attr) (a : Attr) (k : Nat) : List Attr := (xs.take k).filter (fun x => ltS x.n a.n) ++ (if geK xs a k = true then presA a else []) ++ (xs.take k).filter (fun x => ltS a.n x.n)
theorem take_snoc {xs : List Attr} {k : Nat} (h : k < xs.length) : xs.take (k + 1) = xs.take k ++ [xs.getD k A0] := by
  rw [List.take_succ_eq_append_getElem h, atD h]
theorem geK_snoc {xs : List Attr} {a : Attr} {k : Nat} (h : k < xs.length) : geK xs a (k + 1) = (geK xs a k || !ltS (xs.getD k A0).n a.n) := by
  unfold geK; rw [take_snoc h, List.any_append]; simp
theorem geK_false {xs : List Attr} {a : Attr} {k : Nat} (h : geK xs a k = false) : ∀ x ∈ xs.take k, ltS x.n a.n = true := by
  intro x hx
  unfold geK at h
  rw [List.any_eq_false] at h
  have := h x hx
  simpa using this
theorem hi_nil {xs : List Attr} {a : Attr} {k : Nat} (h : geK xs a k = false) : (xs.take k).filter (fun x => ltS a.n x.n) = [] := by
  rw [List.filter_eq_nil_iff]
  intro x hx
  rw [ltS_asymm (geK_false h x hx)]; simp
theorem geK_of {xs : List Attr} (hs : Srt xs) {a : Attr} {k : Nat} (h : k < xs.length) (hl : ltS a.n (xs.getD k A0).n = false) : geK xs a k = false := by
  unfold geK
  rw [List.any_eq_false]
  intro x hx
  obtain ⟨j, hj, rfl⟩ := List.mem_iff_getElem.1 hx
  have hjk : j < k := by simp at hj; omega
  have e : (xs.take k)[j] = xs.getD j A0 := by rw [List.getElem_take, atD (by omega)]
  rw [e]
  have := ltS_le (srt_at hs hjk h) hl
  rw [this]; simp
theorem out_zero (xs : List Attr) (a : Attr) : outK xs a 0 = [] ∧ geK xs a 0 = false := by unfold outK geK; simp
theorem out_lt {xs : List Attr} (hs : Srt xs) {a x : Attr} {k : Nat} (h : k < xs.length) (hx : xs.getD k A0 = x) (hl : ltS x.n a.n = true) :
    geK xs a k = false ∧ geK xs a (k + 1) = false ∧ outK xs a (k + 1) = outK xs a k ++ [x] := by
  have h1 := geK_of hs (a := a) h (by rw [hx]; exact ltS_asymm hl)
  have h2 : geK xs a (k + 1) = false := by rw [geK_snoc h, h1, hx, hl]; rfl
  refine ⟨h1, h2, ?_⟩
  unfold outK
  rw [hi_nil h2, hi_nil h1, h1, h2, take_snoc h, hx, List.filter_append]
  simp [hl]
theorem out_eq {xs : List Attr} (hs : Srt xs) {a x : Attr} {k : Nat} (h : k < xs.length) (hx : xs.getD k A0 = x) (hl : x.n = a.n) :
    geK xs a k = false ∧ geK xs a (k + 1) = true ∧ outK xs a (k + 1) = outK xs a k ++ presA a := by
  have h1 := geK_of hs (a := a) h (by rw [hx, hl]; exact ltS_irrefl _)
  have h2 : geK xs a (k + 1) = true := by rw [geK_snoc h, hx, hl, ltS_irrefl]; simp
  refine ⟨h1, h2, ?_⟩
  unfold outK
  rw [hi_nil h1, h1, h2, take_snoc h, hx, List.filter_append, List.filter_append, hi_nil h1]
  simp [hl, ltS_irrefl]
theorem out_gt {xs : List Attr} {a x : Attr} {k : Nat} (h : k < xs.length) (hx : xs.getD k A0 = x) (hl : ltS a.n x.n = true) :
    geK xs a (k + 1) = true ∧ outK xs a (k + 1) = outK xs a k ++ (if geK xs a k = true then [] else presA a) ++ [x] := by
  have h2 : geK xs a (k + 1) = true := by rw [geK_snoc h, hx, ltS_asymm hl]; simp
  refine ⟨h2, ?_⟩
  unfold outK
  rw [h2, take_snoc h, hx, List.filter_append, List.filter_append]
  cases h1 : geK xs a k with
  | true => simp [hl, ltS_asymm hl]
  | false => rw [hi_nil h1]; simp [hl, ltS_asymm hl]
theorem out_end {xs : List Attr} {a : Attr} : (if geK xs a xs.length = true then outK xs a xs.length else outK xs a xs.length ++ presA a) = setL xs a := by
  unfold outK setL
  cases h1 : geK xs a xs.length with
  | true => simp
  | false =>
    have := hi_nil h1
    rw [List.take_length] at this ⊢
    rw [this]; simp
theorem presA_len (a : Attr) : (presA a).length ≤ 1 := by unfold presA; split <;> simp
theorem outK_len (xs : List Attr) (a : Attr) (k : Nat) : (outK xs a k).length ≤ 2 * xs.length + 1 := by
  unfold outK
  have h1 : ((xs.take k).filter (fun x => ltS x.n a.n)).length ≤ xs.length := Nat.le_trans (List.length_filter_le _ _) (by simp; omega)
  have h2 : ((xs.take k).filter (fun x => ltS a.n x.n)).length ≤ xs.length := Nat.le_trans (List.length_filter_le _ _) (by simp; omega)
  have h3 := presA_len a
  simp only [List.length_append]
  split <;> simp <;> omega
theorem setL_len (xs : List Attr) (a : Attr) : (setL xs a).length ≤ 2 * xs.length + 1 := by
  unfold setL
  have h1 : (xs.filter (fun x => ltS x.n a.n)).length ≤ xs.length := List.length_filter_le _ _
  have h2 : (xs.filter (fun x => ltS a.n x.n)).length ≤ xs.length := List.length_filter_le _ _
  have h3 := presA_len a
  simp only [List.length_append]
  omega
theorem presA_fits {a : Attr} (h : a.fits) : ∀ e ∈ presA a, e.fits := by
  intro e he; unfold presA at he; split at he
  · cases he
  · rw [List.mem_singleton.1 he]; exact h
theorem setL_fits {xs : List Attr} {a : Attr} (h : ∀ e ∈ xs, e.fits) (ha : a.fits) : ∀ e ∈ setL xs a, e.fits := by
  intro e he
  unfold setL at he
  rw [List.mem_append, List.mem_append] at he
  rcases he with (he | he) | he
  · exact h e (List.mem_filter.1 he).1
  · exact presA_fits ha e he
  · exact h e (List.mem_filter.1 he).1

end Go.Proofs.YtfealpehdjeckaaDoor
