/- Plain facts on attribute lists: the order of names, the fault of a list, the place of a name, its value, setting a value. No program. -/
import Derived.Test.YtndhhofidkaomaaPathLeaves
import Derived.Sort.EncStr

set_option linter.all false
namespace Go.Proofs.Ytndhhofidkaomaa
open Go.RowKit

/-- Bytewise order of strings. -/
def ltS (a b : ByteArray) : Bool := Op.bytesLess a.toList b.toList
theorem ltS_iff {a b : ByteArray} : ltS a b = true ↔ a.data.toList < b.data.toList := by
  unfold ltS; rw [Proofs.bytesLess_eq, Lib.toList_data, Lib.toList_data]; simp
theorem ltS_not {a b : ByteArray} : ltS a b = false ↔ ¬ a.data.toList < b.data.toList := by
  rw [← ltS_iff]; simp
theorem bytes_ext {a b : ByteArray} (h : a.data.toList = b.data.toList) : a = b := by
  cases a with | mk d => cases b with | mk e => simp at h; rw [h]
theorem ltS_irrefl (a : ByteArray) : ltS a a = false := ltS_not.2 (List.lt_irrefl _)
theorem ltS_trans {a b c : ByteArray} (h1 : ltS a b = true) (h2 : ltS b c = true) : ltS a c = true := ltS_iff.2 (List.lt_trans (ltS_iff.1 h1) (ltS_iff.1 h2))
theorem ltS_asymm {a b : ByteArray} (h : ltS a b = true) : ltS b a = false := by
  cases h2 : ltS b a with
  | false => rfl
  | true => have := ltS_trans h h2; rw [ltS_irrefl] at this; cases this
theorem ltS_eq {a b : ByteArray} (h1 : ltS a b = false) (h2 : ltS b a = false) : a = b :=
  bytes_ext (List.le_antisymm (List.not_lt.1 (ltS_not.1 h2)) (List.not_lt.1 (ltS_not.1 h1)))
theorem ltS_ne {a b : ByteArray} (h : ltS a b = true) : a ≠ b := fun e => by subst e; rw [ltS_irrefl] at h; cases h
theorem ltS_of {a b : ByteArray} (h1 : ltS a b = false) (h2 : a ≠ b) : ltS b a = true := by
  cases h : ltS b a with
  | true => rfl
  | false => exact absurd (ltS_eq h1 h) h2
theorem ltS_trans' {a b c : ByteArray} (h1 : ltS b a = false) (h2 : ltS b c = true) : ltS a c = true := by
  cases h : ltS a b with
  | true => exact ltS_trans h h2
  | false => rw [ltS_eq h h1]; exact h2
theorem ltS_le {a b c : ByteArray} (h1 : ltS a b = true) (h2 : ltS c b = false) : ltS a c = true := by
  cases h : ltS b c with
  | true => exact ltS_trans h1 h
  | false => rw [ltS_eq h2 h]; exact h1
theorem toList_nil {v : ByteArray} : v.toList = [] ↔ v = ByteArray.empty := by
  constructor
  · intro h; apply bytes_ext; rw [← Lib.toList_data, h]; rfl
  · rintro rfl; rw [Lib.toList_data]; rfl
theorem toList_inj {a b : ByteArray} : a.toList = b.toList ↔ a = b :=
  ⟨fun h => bytes_ext (by rw [← Lib.toList_data, ← Lib.toList_data, h]), fun h => by rw [h]⟩
theorem beq_str (a b : ByteArray) : (a.toList == b.toList) = decide (a = b) := by
  rw [Bool.eq_iff_iff]; simp [toList_inj]
theorem isEmpty_str (v : ByteArray) : v.toList.isEmpty = decide (v = ByteArray.empty) := by
  rw [Bool.eq_iff_iff, List.isEmpty_iff, toList_nil]; simp
theorem ltS_empty (a : ByteArray) : ltS ByteArray.empty a = decide (a ≠ ByteArray.empty) := by
  rw [Bool.eq_iff_iff, decide_eq_true_iff, ltS_iff]
  constructor
  · intro h e; rw [e] at h; exact List.lt_irrefl _ h
  · intro h
    cases hl : a.data.toList with
    | nil => exact absurd (bytes_ext (by rw [hl]; rfl)) h
    | cons x r => exact List.nil_lt_cons x r

structure Attr where
  n : ByteArray
  v : ByteArray
abbrev A0 : Attr := ⟨ByteArray.empty, ByteArray.empty⟩
theorem Attr.eta (a : Attr) : a = ⟨a.n, a.v⟩ := rfl
def Attr.fits (a : Attr) : Prop := a.n.size ≤ maxLen ∧ a.v.size ≤ maxLen
theorem A0_fits : A0.fits := ⟨by unfold maxLen; simp, by unfold maxLen; simp⟩
theorem atD {xs : List Attr} {k : Nat} (h : k < xs.length) : xs.getD k A0 = xs[k] := by
  rw [List.getD_eq_getElem?_getD, List.getElem?_eq_getElem h]; rfl
theorem atD_mem {xs : List Attr} {k : Nat} (h : k < xs.length) : xs.getD k A0 ∈ xs := by rw [atD h]; exact List.getElem_mem h

/-- The code of an attribute that is set or removed. -/
def codeA (a : Attr) : Int := if vname a.n = true then (if 20 < a.v.size then 10 else 0) else 12
theorem codeA_ok {a : Attr} (h : codeA a = 0) : vname a.n = true ∧ a.v.size ≤ 20 := by
  unfold codeA at h
  split at h
  · rename_i h1
    split at h
    · cases h
    · exact ⟨h1, by omega⟩
  · cases h
/-- The name before number k. -/
def prevN (xs : List Attr) (k : Nat) : ByteArray := if k = 0 then ByteArray.empty else (xs.getD (k - 1) A0).n
/-- The code of number k of a list. -/
def codeL (xs : List Attr) (k : Nat) : Int :=
  if codeA (xs.getD k A0) = 0 then (if (xs.getD k A0).v = ByteArray.empty ∨ ltS (prevN xs k) (xs.getD k A0).n = false then 5 else 0) else codeA (xs.getD k A0)

/-- The first number from i on, m of them, at which f is not zero, with f there. -/
def firstNZ (f : Nat → Int) : Nat → Nat → Int × Int
  | 0, _ => (0, 0)
  | m + 1, i => if f i = 0 then firstNZ f m (i + 1) else (f i, i)
theorem firstNZ_hit (f : Nat → Int) : ∀ (m i k : Nat), k < m → f (i + k) ≠ 0 → (∀ j, j < k → f (i + j) = 0) → firstNZ f m i = (f (i + k), ((i + k : Nat) : Int))
  | 0, _, _, h, _, _ => absurd h (by simp)
  | m + 1, i, 0, _, hc, _ => by simp at hc ⊢; unfold firstNZ; rw [if_neg hc]
  | m + 1, i, k + 1, h, hc, hA => by
    have h0 := hA 0 (by omega)
    simp at h0
    unfold firstNZ
    have e1 : i + (k + 1) = i + 1 + k := by omega
    rw [e1] at hc ⊢
    rw [if_pos h0, firstNZ_hit f m (i + 1) k (by omega) hc (fun j hj => by have := hA (j + 1) (by omega); rwa [show i + (j + 1) = i + 1 + j by omega] at this)]
theorem firstNZ_miss (f : Nat → Int) : ∀ (m i : Nat), (∀ j, j < m → f (i + j) = 0) → firstNZ f m i = (0, 0)
  | 0, _, _ => rfl
  | m + 1, i, hA => by
    have h0 := hA 0 (by simp)
    simp at h0
    unfold firstNZ
    rw [if_pos h0, firstNZ_miss f m (i + 1) (fun j hj => by have := hA (j + 1) (by omega); rwa [show i + (j + 1) = i + 1 + j by omega] at this)]
theorem firstNZ_zero (f : Nat → Int) : ∀ (m i : Nat), (firstNZ f m i).1 = 0 → (∀ j, j < m → f (i + j) = 0)
  | 0, _, _, j, hj => absurd hj (by simp)
  | m + 1, i, h, j, hj => by
    unfold firstNZ at h
    split at h
    · rename_i h0
      cases j with
      | zero => simpa using h0
      | succ j => have := firstNZ_zero f m (i + 1) h j (by omega); rwa [show i + (j + 1) = i + 1 + j by omega]
    · rename_i h0; exact absurd h h0

/-- The fault of a list. -/
def valA (xs : List Attr) : Int × Int := if 6 < xs.length then (2, 0) else firstNZ (codeL xs) xs.length 0
theorem valA_many {xs : List Attr} (h : 6 < xs.length) : valA xs = (2, 0) := by unfold valA; rw [if_pos h]
theorem valA_hit {xs : List Attr} (h : ¬ 6 < xs.length) {k : Nat} (hk : k < xs.length) (hc : codeL xs k ≠ 0) (hA : ∀ j, j < k → codeL xs j = 0) : valA xs = (codeL xs k, (k : Int)) := by
  unfold valA; rw [if_neg h]
  have := firstNZ_hit (codeL xs) xs.length 0 k hk (by simpa using hc) (by simpa using hA)
  simpa using this
theorem valA_miss {xs : List Attr} (h : ¬ 6 < xs.length) (hA : ∀ j, j < xs.length → codeL xs j = 0) : valA xs = (0, 0) := by
  unfold valA; rw [if_neg h]; exact firstNZ_miss _ _ _ (by simpa using hA)

/-- A valid list. -/
structure Good (xs : List Attr) : Prop where
  len : xs.length ≤ 6
  code : ∀ a ∈ xs, codeA a = 0
  ne : ∀ a ∈ xs, a.v ≠ ByteArray.empty
  srt : xs.Pairwise (fun a b => ltS a.n b.n = true)
theorem codeL_zero {xs : List Attr} {k : Nat} (h : codeL xs k = 0) : codeA (xs.getD k A0) = 0 ∧ (xs.getD k A0).v ≠ ByteArray.empty ∧ ltS (prevN xs k) (xs.getD k A0).n = true := by
  unfold codeL at h
  split at h
  · rename_i h1
    split at h
    · cases h
    · rename_i h2
      simp at h2
      exact ⟨h1, h2.1, h2.2⟩
  · rename_i h1; exact absurd h h1
theorem srt_of {xs : List Attr} (h : ∀ k, k + 1 < xs.length → ltS (xs.getD k A0).n (xs.getD (k + 1) A0).n = true) : xs.Pairwise (fun a b => ltS a.n b.n = true) := by
  rw [List.pairwise_iff_getElem]
  intro i j hi hj hij
  rw [← atD hi, ← atD hj]
  clear hi
  obtain ⟨d, rfl⟩ : ∃ d, j = i + 1 + d := ⟨j - i - 1, by omega⟩
  clear hij
  induction d with
  | zero => exact h i hj
  | succ d ih => exact ltS_trans (ih (by omega)) (h (i + 1 + d) hj)
theorem good_of {xs : List Attr} (h : (valA xs).1 = 0) : Good xs := by
  have h6 : ¬ 6 < xs.length := fun h' => by rw [valA_many h'] at h; cases h
  unfold valA at h
  rw [if_neg h6] at h
  have hz := firstNZ_zero _ _ _ h
  simp only [Nat.zero_add] at hz
  refine ⟨by omega, fun a ha => ?_, fun a ha => ?_, srt_of fun k hk => ?_⟩
  · obtain ⟨j, hj, rfl⟩ := List.mem_iff_getElem.1 ha
    rw [← atD hj]; exact (codeL_zero (hz j hj)).1
  · obtain ⟨j, hj, rfl⟩ := List.mem_iff_getElem.1 ha
    rw [← atD hj]; exact (codeL_zero (hz j hj)).2.1
  · have := (codeL_zero (hz (k + 1) hk)).2.2
    unfold prevN at this
    rwa [if_neg (by simp), Nat.add_sub_cancel] at this
theorem Good.name {xs : List Attr} (h : Good xs) {a : Attr} (ha : a ∈ xs) : vname a.n = true := (codeA_ok (h.code a ha)).1
theorem Good.val {xs : List Attr} (h : Good xs) : valA xs = (0, 0) := by
  refine valA_miss (by have := h.len; omega) fun j hj => ?_
  unfold codeL
  have hm := atD_mem hj
  rw [if_pos (h.code _ hm), if_neg]
  rintro (h1 | h1)
  · exact h.ne _ hm h1
  · unfold prevN at h1
    split at h1
    · rw [ltS_empty, decide_eq_false_iff_not] at h1
      apply h1
      intro e
      have hv := h.name hm
      rw [e] at hv
      unfold vname at hv
      rw [Bool.and_eq_true] at hv
      have := (vshape_iff.1 hv.1).1
      simp at this
    · have := List.pairwise_iff_getElem.1 h.srt (j - 1) j (by omega) hj (by omega)
      rw [← atD, ← atD, h1] at this
      cases this
theorem good_nil : Good [] := ⟨by simp, by simp, by simp, by simp⟩

/-- The value of a name, empty if it is absent. -/
def getA (xs : List Attr) (nm : ByteArray) : ByteArray := match xs.find? (fun a => decide (a.n = nm)) with
  | some a => a.v
  | none => ByteArray.empty
theorem getA_hit {xs : List Attr} {nm : ByteArray} {k : Nat} (hk : k < xs.length) (he : (xs.getD k A0).n = nm) (hA : ∀ j, j < k → (xs.getD j A0).n ≠ nm) : getA xs nm = (xs.getD k A0).v := by
  unfold getA
  have : xs.find? (fun a => decide (a.n = nm)) = some (xs.getD k A0) := by
    rw [List.find?_eq_some_iff_getElem]
    refine ⟨by simpa using he, k, hk, (atD hk).symm, fun j hj => ?_⟩
    have := hA j hj
    rw [atD (by omega)] at this
    simpa using this
  rw [this]
theorem getA_miss {xs : List Attr} {nm : ByteArray} (hA : ∀ j, j < xs.length → (xs.getD j A0).n ≠ nm) : getA xs nm = ByteArray.empty := by
  unfold getA
  have : xs.find? (fun a => decide (a.n = nm)) = none := by
    rw [List.find?_eq_none]
    intro a ha
    obtain ⟨j, hj, rfl⟩ := List.mem_iff_getElem.1 ha
    have := hA j hj
    rw [atD hj] at this
    simpa using this
  rw [this]
theorem getA_nil (nm : ByteArray) : getA [] nm = ByteArray.empty := rfl
theorem getA_cons (a : Attr) (xs : List Attr) (nm : ByteArray) : getA (a :: xs) nm = if a.n = nm then a.v else getA xs nm := by
  unfold getA
  rw [List.find?_cons]
  by_cases h : a.n = nm <;> simp [h]

/-- How many names are less. -/
def lowB (xs : List Attr) (nm : ByteArray) : Nat := xs.countP (fun a => ltS a.n nm)
def fnd (xs : List Attr) (nm : ByteArray) : Bool := decide (lowB xs nm < xs.length ∧ (xs.getD (lowB xs nm) A0).n = nm)
theorem countP_split (p : Attr → Bool) : ∀ (l : List Attr) (i : Nat), i ≤ l.length → (∀ j, j < i → p (l.getD j A0) = true) → (∀ j, i ≤ j → j < l.length → p (l.getD j A0) = false) → l.countP p = i
  | [], i, hi, _, _ => by
    have : i = 0 := by simpa using hi
    simp [this]
  | a :: r, 0, _, _, h2 => by
    have ha : p a = false := by simpa using h2 0 (Nat.le_refl _) (by simp)
    have := countP_split p r 0 (Nat.zero_le _) (fun j hj => absurd hj (Nat.not_lt_zero _)) (fun j _ hj => by simpa using h2 (j + 1) (Nat.zero_le _) (by simpa using hj))
    simp [ha, this]
  | a :: r, i + 1, hi, h1, h2 => by
    have ha : p a = true := by simpa using h1 0 (Nat.succ_pos _)
    have := countP_split p r i (by simpa using hi) (fun j hj => by simpa using h1 (j + 1) (by omega)) (fun j hij hj => by simpa using h2 (j + 1) (by omega) (by simpa using hj))
    simp [ha, this]
theorem srt_at {xs : List Attr} (h : xs.Pairwise (fun a b => ltS a.n b.n = true)) {i j : Nat} (hij : i < j) (hj : j < xs.length) : ltS (xs.getD i A0).n (xs.getD j A0).n = true := by
  rw [atD (by omega), atD hj]
  exact List.pairwise_iff_getElem.1 h i j (by omega) hj hij
/-- What the binary search's loop knows when it stops. -/
theorem lowB_of {xs : List Attr} {nm : ByteArray} {i : Nat} (hi : i ≤ xs.length) (h1 : ∀ j, j < i → ltS (xs.getD j A0).n nm = true) (h2 : ∀ j, i ≤ j → j < xs.length → ltS (xs.getD j A0).n nm = false) : lowB xs nm = i :=
  countP_split _ xs i hi h1 h2
theorem lowB_le (xs : List Attr) (nm : ByteArray) : lowB xs nm ≤ xs.length := List.countP_le_length
theorem lowB_lo {xs : List Attr} (h : xs.Pairwise (fun a b => ltS a.n b.n = true)) (nm : ByteArray) : (∀ j, j < lowB xs nm → ltS (xs.getD j A0).n nm = true) ∧ (∀ j, lowB xs nm ≤ j → j < xs.length → ltS (xs.getD j A0).n nm = false) := by
  induction xs with
  | nil => exact ⟨fun j hj => by simp [lowB] at hj, fun j _ hj => by simp at hj⟩
  | cons a r ih =>
    rw [List.pairwise_cons] at h
    obtain ⟨i1, i2⟩ := ih h.2
    cases ha : ltS a.n nm with
    | true =>
      have e : lowB (a :: r) nm = lowB r nm + 1 := by unfold lowB; rw [List.countP_cons]; simp [ha]
      rw [e]
      refine ⟨fun j hj => ?_, fun j hj hl => ?_⟩
      · cases j with
        | zero => simpa using ha
        | succ j => simpa using i1 j (by omega)
      · cases j with
        | zero => omega
        | succ j => simpa using i2 j (by omega) (by simpa using hl)
    | false =>
      have hall : ∀ b ∈ r, ltS b.n nm = false := fun b hb => by
        cases hb2 : ltS b.n nm with
        | false => rfl
        | true => rw [ltS_trans (h.1 b hb) hb2] at ha; cases ha
      have e : lowB (a :: r) nm = 0 := by
        unfold lowB; rw [List.countP_cons, List.countP_eq_zero.2 (fun b hb => by rw [hall b hb]; simp)]; simp [ha]
      rw [e]
      refine ⟨fun j hj => by omega, fun j _ hl => ?_⟩
      cases j with
      | zero => simpa using ha
      | succ j => simpa using hall _ (atD_mem (by simpa using hl))
theorem fnd_iff {xs : List Attr} {nm : ByteArray} : fnd xs nm = true ↔ lowB xs nm < xs.length ∧ (xs.getD (lowB xs nm) A0).n = nm := by unfold fnd; simp
theorem get_fnd {xs : List Attr} (h : xs.Pairwise (fun a b => ltS a.n b.n = true)) {nm : ByteArray} (hf : fnd xs nm = true) : getA xs nm = (xs.getD (lowB xs nm) A0).v := by
  obtain ⟨h1, h2⟩ := fnd_iff.1 hf
  exact getA_hit h1 h2 fun j hj => ltS_ne ((lowB_lo h nm).1 j hj)
theorem get_nfnd {xs : List Attr} (h : xs.Pairwise (fun a b => ltS a.n b.n = true)) {nm : ByteArray} (hf : fnd xs nm = false) : getA xs nm = ByteArray.empty := by
  refine getA_miss fun j hj e => ?_
  obtain ⟨l1, l2⟩ := lowB_lo h nm
  have hlt : ¬ j < lowB xs nm := fun hlt => ltS_ne (l1 j hlt) e
  unfold fnd at hf
  rw [decide_eq_false_iff_not] at hf
  apply hf
  by_cases hj2 : j = lowB xs nm
  · subst hj2; exact ⟨hj, e⟩
  · exfalso
    have hs := srt_at h (i := lowB xs nm) (j := j) (by omega) hj
    rw [e] at hs
    rw [l2 _ (Nat.le_refl _) (by omega)] at hs
    cases hs

end Go.Proofs.Ytndhhofidkaomaa
