/- Package memfs and what it calls, at this seat's translation.
   Condition: as each theorem states; this text: AttrPlain, PathName, PathComps, AttrSlice, PathJoin, AttrCode, PathPieces, AttrSame, AttrRow, AttrValid, PathCompF, AttrLeaves. -/
import Derived.Test.YtmbbmmnpkdfecaaGreatDoorMb3
import Derived.Sort.EncStr
import Derived.Test.YtmbbmmnpkdfecaaGreatDoorMb1
import Derived.Lib.DecodeN
import Derived.Lib.Strings
import Derived.Lib.SlBy
import Derived.Deep.LoopGhost
import Derived.Deep.Draws
import Derived.Laws.AppendOwn
import Derived.Laws.AppendOwnNone
import Derived.Laws.OwnMore
import Derived.OwnWalk
import Derived.RegionTactic
import Derived.ChangeAlike
import Derived.Lib.Split
import Derived.Lib.SplitLaws
import Derived.Lib.IndexLaws
import Derived.BigQuiet
import Derived.ProofKit
import Derived.SizedLaws
import Derived.Deep.Slices
import Derived.Deep.Fields
import Derived.ChangeSame

set_option linter.all false

/- Plain facts on attribute lists: the order of names, the fault of a list, the place of a name, its value, setting a value. No program. -/

set_option linter.all false
namespace Go.Proofs.YtmbbmmnpkdfecaaGreatDoor
open Go.RowKit

/-- Bytewise order of strings. -/
def ltS (a b : ByteArray) : Bool := Op.bytesLess a.toList b.toList
theorem ltS_iff {a b : ByteArray} : ltS a b = true ↔ a.data.toList < b.data.toList := by
  unfold ltS; rw [Proofs.bytesLess_eq, Lib.toList_data, Lib.toList_data]; simp
theorem ltS_not {a b : ByteArray} : ltS a b = false ↔ ¬ a.data.toList < b.data.toList := by
  rw [← ltS_iff]; simp
theorem bytes_ext {a b : ByteArray} (h : a.data.toList = b.data.toList) : a = b := by
  cases a with | mk d => cases b with | mk e => simp at h; rw [h]
theorem ltS_irrefl (a : ByteArray) : ltS a a = false := ltS_not.2 (List.lt_irrefl _)
theorem ltS_trans {a b c : ByteArray} (h1 : ltS a b = true) (h2 : ltS b c = true) : ltS a c = true := ltS_iff.2 (List.lt_trans (ltS_iff.1 h1) (ltS_iff.1 h2))
theorem ltS_asymm {a b : ByteArray} (h : ltS a b = true) : ltS b a = false := by
  cases h2 : ltS b a with
  | false => rfl
  | true => have := ltS_trans h h2; rw [ltS_irrefl] at this; cases this
theorem ltS_eq {a b : ByteArray} (h1 : ltS a b = false) (h2 : ltS b a = false) : a = b :=
  bytes_ext (List.le_antisymm (List.not_lt.1 (ltS_not.1 h2)) (List.not_lt.1 (ltS_not.1 h1)))
theorem ltS_ne {a b : ByteArray} (h : ltS a b = true) : a ≠ b := fun e => by subst e; rw [ltS_irrefl] at h; cases h
theorem ltS_of {a b : ByteArray} (h1 : ltS a b = false) (h2 : a ≠ b) : ltS b a = true := by
  cases h : ltS b a with
  | true => rfl
  | false => exact absurd (ltS_eq h1 h) h2
theorem ltS_trans' {a b c : ByteArray} (h1 : ltS b a = false) (h2 : ltS b c = true) : ltS a c = true := by
  cases h : ltS a b with
  | true => exact ltS_trans h h2
  | false => rw [ltS_eq h h1]; exact h2
theorem ltS_le {a b c : ByteArray} (h1 : ltS a b = true) (h2 : ltS c b = false) : ltS a c = true := by
  cases h : ltS b c with
  | true => exact ltS_trans h1 h
  | false => rw [ltS_eq h2 h]; exact h1
theorem toList_nil {v : ByteArray} : v.toList = [] ↔ v = ByteArray.empty := by
  constructor
  · intro h; apply bytes_ext; rw [← Lib.toList_data, h]; rfl
  · rintro rfl; rw [Lib.toList_data]; rfl
theorem toList_inj {a b : ByteArray} : a.toList = b.toList ↔ a = b :=
  ⟨fun h => bytes_ext (by rw [← Lib.toList_data, ← Lib.toList_data, h]), fun h => by rw [h]⟩
theorem beq_str (a b : ByteArray) : (a.toList == b.toList) = decide (a = b) := by
  rw [Bool.eq_iff_iff]; simp [toList_inj]
theorem isEmpty_str (v : ByteArray) : v.toList.isEmpty = decide (v = ByteArray.empty) := by
  rw [Bool.eq_iff_iff, List.isEmpty_iff, toList_nil]; simp
theorem ltS_empty (a : ByteArray) : ltS ByteArray.empty a = decide (a ≠ ByteArray.empty) := by
  rw [Bool.eq_iff_iff, decide_eq_true_iff, ltS_iff]
  constructor
  · intro h e; rw [e] at h; exact List.lt_irrefl _ h
  · intro h
    cases hl : a.data.toList with
    | nil => exact absurd (bytes_ext (by rw [hl]; rfl)) h
    | cons x r => exact List.nil_lt_cons x r

structure Attr where
  n : ByteArray
  v : ByteArray
abbrev A0 : Attr := ⟨ByteArray.empty, ByteArray.empty⟩
theorem Attr.eta (a : Attr) : a = ⟨a.n, a.v⟩ := rfl
def Attr.fits (a : Attr) : Prop := a.n.size ≤ maxLen ∧ a.v.size ≤ maxLen
theorem A0_fits : A0.fits := ⟨by unfold maxLen; simp, by unfold maxLen; simp⟩
theorem atD {xs : List Attr} {k : Nat} (h : k < xs.length) : xs.getD k A0 = xs[k] := by
  rw [List.getD_eq_getElem?_getD, List.getElem?_eq_getElem h]; rfl
theorem atD_mem {xs : List Attr} {k : Nat} (h : k < xs.length) : xs.getD k A0 ∈ xs := by rw [atD h]; exact List.getElem_mem h

/-- The code of an attribute that is set or removed. -/
def codeA (a : Attr) : Int := if vname a.n = true then (if 20 < a.v.size then 10 else 0) else 12
theorem codeA_ok {a : Attr} (h : codeA a = 0) : vname a.n = true ∧ a.v.size ≤ 20 := by
  unfold codeA at h
  split at h
  · rename_i h1
    split at h
    · cases h
    · exact ⟨h1, by omega⟩
  · cases h
/-- The name before number k. -/
def prevN (xs : List Attr) (k : Nat) : ByteArray := if k = 0 then ByteArray.empty else (xs.getD (k - 1) A0).n
/-- The code of number k of a list. -/
def codeL (xs : List Attr) (k : Nat) : Int :=
  if codeA (xs.getD k A0) = 0 then (if (xs.getD k A0).v = ByteArray.empty ∨ ltS (prevN xs k) (xs.getD k A0).n = false then 5 else 0) else codeA (xs.getD k A0)

/-- The first number from i on, m of them, at which f is not zero, with f there. -/
def firstNZ (f : Nat → Int) : Nat → Nat → Int × Int
  | 0, _ => (0, 0)
  | m + 1, i => if f i = 0 then firstNZ f m (i + 1) else (f i, i)
theorem firstNZ_hit (f : Nat → Int) : ∀ (m i k : Nat), k < m → f (i + k) ≠ 0 → (∀ j, j < k → f (i + j) = 0) → firstNZ f m i = (f (i + k), ((i + k : Nat) : Int))
  | 0, _, _, h, _, _ => absurd h (by simp)
  | m + 1, i, 0, _, hc, _ => by simp at hc ⊢; unfold firstNZ; rw [if_neg hc]
  | m + 1, i, k + 1, h, hc, hA => by
    have h0 := hA 0 (by omega)
    simp at h0
    unfold firstNZ
    have e1 : i + (k + 1) = i + 1 + k := by omega
    rw [e1] at hc ⊢
    rw [if_pos h0, firstNZ_hit f m (i + 1) k (by omega) hc (fun j hj => by have := hA (j + 1) (by omega); rwa [show i + (j + 1) = i + 1 + j by omega] at this)]
theorem firstNZ_miss (f : Nat → Int) : ∀ (m i : Nat), (∀ j, j < m → f (i + j) = 0) → firstNZ f m i = (0, 0)
  | 0, _, _ => rfl
  | m + 1, i, hA => by
    have h0 := hA 0 (by simp)
    simp at h0
    unfold firstNZ
    rw [if_pos h0, firstNZ_miss f m (i + 1) (fun j hj => by have := hA (j + 1) (by omega); rwa [show i + (j + 1) = i + 1 + j by omega] at this)]
theorem firstNZ_zero (f : Nat → Int) : ∀ (m i : Nat), (firstNZ f m i).1 = 0 → (∀ j, j < m → f (i + j) = 0)
  | 0, _, _, j, hj => absurd hj (by simp)
  | m + 1, i, h, j, hj => by
    unfold firstNZ at h
    split at h
    · rename_i h0
      cases j with
      | zero => simpa using h0
      | succ j => have := firstNZ_zero f m (i + 1) h j (by omega); rwa [show i + (j + 1) = i + 1 + j by omega]
    · rename_i h0; exact absurd h h0

/-- The fault of a list. -/
def valA (xs : List Attr) : Int × Int := if 6 < xs.length then (2, 0) else firstNZ (codeL xs) xs.length 0
theorem valA_many {xs : List Attr} (h : 6 < xs.length) : valA xs = (2, 0) := by unfold valA; rw [if_pos h]
theorem valA_hit {xs : List Attr} (h : ¬ 6 < xs.length) {k : Nat} (hk : k < xs.length) (hc : codeL xs k ≠ 0) (hA : ∀ j, j < k → codeL xs j = 0) : valA xs = (codeL xs k, (k : Int)) := by
  unfold valA; rw [if_neg h]
  have := firstNZ_hit (codeL xs) xs.length 0 k hk (by simpa using hc) (by simpa using hA)
  simpa using this
theorem valA_miss {xs : List Attr} (h : ¬ 6 < xs.length) (hA : ∀ j, j < xs.length → codeL xs j = 0) : valA xs = (0, 0) := by
  unfold valA; rw [if_neg h]; exact firstNZ_miss _ _ _ (by simpa using hA)

/-- A valid list. -/
structure Good (xs : List Attr) : Prop where
  len : xs.length ≤ 6
  code : ∀ a ∈ xs, codeA a = 0
  ne : ∀ a ∈ xs, a.v ≠ ByteArray.empty
  srt : xs.Pairwise (fun a b => ltS a.n b.n = true)
theorem codeL_zero {xs : List Attr} {k : Nat} (h : codeL xs k = 0) : codeA (xs.getD k A0) = 0 ∧ (xs.getD k A0).v ≠ ByteArray.empty ∧ ltS (prevN xs k) (xs.getD k A0).n = true := by
  unfold codeL at h
  split at h
  · rename_i h1
    split at h
    · cases h
    · rename_i h2
      simp at h2
      exact ⟨h1, h2.1, h2.2⟩
  · rename_i h1; exact absurd h h1
theorem srt_of {xs : List Attr} (h : ∀ k, k + 1 < xs.length → ltS (xs.getD k A0).n (xs.getD (k + 1) A0).n = true) : xs.Pairwise (fun a b => ltS a.n b.n = true) := by
  rw [List.pairwise_iff_getElem]
  intro i j hi hj hij
  rw [← atD hi, ← atD hj]
  clear hi
  obtain ⟨d, rfl⟩ : ∃ d, j = i + 1 + d := ⟨j - i - 1, by omega⟩
  clear hij
  induction d with
  | zero => exact h i hj
  | succ d ih => exact ltS_trans (ih (by omega)) (h (i + 1 + d) hj)
theorem good_of {xs : List Attr} (h : (valA xs).1 = 0) : Good xs := by
  have h6 : ¬ 6 < xs.length := fun h' => by rw [valA_many h'] at h; cases h
  unfold valA at h
  rw [if_neg h6] at h
  have hz := firstNZ_zero _ _ _ h
  simp only [Nat.zero_add] at hz
  refine ⟨by omega, fun a ha => ?_, fun a ha => ?_, srt_of fun k hk => ?_⟩
  · obtain ⟨j, hj, rfl⟩ := List.mem_iff_getElem.1 ha
    rw [← atD hj]; exact (codeL_zero (hz j hj)).1
  · obtain ⟨j, hj, rfl⟩ := List.mem_iff_getElem.1 ha
    rw [← atD hj]; exact (codeL_zero (hz j hj)).2.1
  · have := (codeL_zero (hz (k + 1) hk)).2.2
    unfold prevN at this
    rwa [if_neg (by simp), Nat.add_sub_cancel] at this
theorem Good.name {xs : List Attr} (h : Good xs) {a : Attr} (ha : a ∈ xs) : vname a.n = true := (codeA_ok (h.code a ha)).1
theorem Good.val {xs : List Attr} (h : Good xs) : valA xs = (0, 0) := by
  refine valA_miss (by have := h.len; omega) fun j hj => ?_
  unfold codeL
  have hm := atD_mem hj
  rw [if_pos (h.code _ hm), if_neg]
  rintro (h1 | h1)
  · exact h.ne _ hm h1
  · unfold prevN at h1
    split at h1
    · rw [ltS_empty, decide_eq_false_iff_not] at h1
      apply h1
      intro e
      have hv := h.name hm
      rw [e] at hv
      unfold vname at hv
      rw [Bool.and_eq_true] at hv
      have := (vshape_iff.1 hv.1).1
      simp at this
    · have := List.pairwise_iff_getElem.1 h.srt (j - 1) j (by omega) hj (by omega)
      rw [← atD, ← atD, h1] at this
      cases this
theorem good_nil : Good [] := ⟨by simp, by simp, by simp, by simp⟩

/-- The value of a name, empty if it is absent. -/
def getA (xs : List Attr) (nm : ByteArray) : ByteArray := match xs.find? (fun a => decide (a.n = nm)) with
  | some a => a.v
  | none => ByteArray.empty
theorem getA_hit {xs : List Attr} {nm : ByteArray} {k : Nat} (hk : k < xs.length) (he : (xs.getD k A0).n = nm) (hA : ∀ j, j < k → (xs.getD j A0).n ≠ nm) : getA xs nm = (xs.getD k A0).v := by
  unfold getA
  have : xs.find? (fun a => decide (a.n = nm)) = some (xs.getD k A0) := by
    rw [List.find?_eq_some_iff_getElem]
    refine ⟨by simpa using he, k, hk, (atD hk).symm, fun j hj => ?_⟩
    have := hA j hj
    rw [atD (by omega)] at this
    simpa using this
  rw [this]
theorem getA_miss {xs : List Attr} {nm : ByteArray} (hA : ∀ j, j < xs.length → (xs.getD j A0).n ≠ nm) : getA xs nm = ByteArray.empty := by
  unfold getA
  have : xs.find? (fun a => decide (a.n = nm)) = none := by
    rw [List.find?_eq_none]
    intro a ha
    obtain ⟨j, hj, rfl⟩ := List.mem_iff_getElem.1 ha
    have := hA j hj
    rw [atD hj] at this
    simpa using this
  rw [this]
theorem getA_nil (nm : ByteArray) : getA [] nm = ByteArray.empty := rfl
theorem getA_cons (a : Attr) (xs : List Attr) (nm : ByteArray) : getA (a :: xs) nm = if a.n = nm then a.v else getA xs nm := by
  unfold getA
  rw [List.find?_cons]
  by_cases h : a.n = nm <;> simp [h]

/-- How many names are less. -/
def lowB (xs : List Attr) (nm : ByteArray) : Nat := xs.countP (fun a => ltS a.n nm)
def fnd (xs : List Attr) (nm : ByteArray) : Bool := decide (lowB xs nm < xs.length ∧ (xs.getD (lowB xs nm) A0).n = nm)
theorem countP_split (p : Attr → Bool) : ∀ (l : List Attr) (i : Nat), i ≤ l.length → (∀ j, j < i → p (l.getD j A0) = true) → (∀ j, i ≤ j → j < l.length → p (l.getD j A0) = false) → l.countP p = i
  | [], i, hi, _, _ => by
    have : i = 0 := by simpa using hi
    simp [this]
  | a :: r, 0, _, _, h2 => by
    have ha : p a = false := by simpa using h2 0 (Nat.le_refl _) (by simp)
    have := countP_split p r 0 (Nat.zero_le _) (fun j hj => absurd hj (Nat.not_lt_zero _)) (fun j _ hj => by simpa using h2 (j + 1) (Nat.zero_le _) (by simpa using hj))
    simp [ha, this]
  | a :: r, i + 1, hi, h1, h2 => by
    have ha : p a = true := by simpa using h1 0 (Nat.succ_pos _)
    have := countP_split p r i (by simpa using hi) (fun j hj => by simpa using h1 (j + 1) (by omega)) (fun j hij hj => by simpa using h2 (j + 1) (by omega) (by simpa using hj))
    simp [ha, this]
theorem srt_at {xs : List Attr} (h : xs.Pairwise (fun a b => ltS a.n b.n = true)) {i j : Nat} (hij : i < j) (hj : j < xs.length) : ltS (xs.getD i A0).n (xs.getD j A0).n = true := by
  rw [atD (by omega), atD hj]
  exact List.pairwise_iff_getElem.1 h i j (by omega) hj hij
/-- What the binary search's loop knows when it stops. -/
theorem lowB_of {xs : List Attr} {nm : ByteArray} {i : Nat} (hi : i ≤ xs.length) (h1 : ∀ j, j < i → ltS (xs.getD j A0).n nm = true) (h2 : ∀ j, i ≤ j → j < xs.length → ltS (xs.getD j A0).n nm = false) : lowB xs nm = i :=
  countP_split _ xs i hi h1 h2
theorem lowB_le (xs : List Attr) (nm : ByteArray) : lowB xs nm ≤ xs.length := List.countP_le_length
theorem lowB_lo {xs : List Attr} (h : xs.Pairwise (fun a b => ltS a.n b.n = true)) (nm : ByteArray) : (∀ j, j < lowB xs nm → ltS (xs.getD j A0).n nm = true) ∧ (∀ j, lowB xs nm ≤ j → j < xs.length → ltS (xs.getD j A0).n nm = false) := by
  induction xs with
  | nil => exact ⟨fun j hj => by simp [lowB] at hj, fun j _ hj => by simp at hj⟩
  | cons a r ih =>
    rw [List.pairwise_cons] at h
    obtain ⟨i1, i2⟩ := ih h.2
    cases ha : ltS a.n nm with
    | true =>
      have e : lowB (a :: r) nm = lowB r nm + 1 := by unfold lowB; rw [List.countP_cons]; simp [ha]
      rw [e]
      refine ⟨fun j hj => ?_, fun j hj hl => ?_⟩
      · cases j with
        | zero => simpa using ha
        | succ j => simpa using i1 j (by omega)
      · cases j with
        | zero => omega
        | succ j => simpa using i2 j (by omega) (by simpa using hl)
    | false =>
      have hall : ∀ b ∈ r, ltS b.n nm = false := fun b hb => by
        cases hb2 : ltS b.n nm with
        | false => rfl
        | true => rw [ltS_trans (h.1 b hb) hb2] at ha; cases ha
      have e : lowB (a :: r) nm = 0 := by
        unfold lowB; rw [List.countP_cons, List.countP_eq_zero.2 (fun b hb => by rw [hall b hb]; simp)]; simp [ha]
      rw [e]
      refine ⟨fun j hj => by omega, fun j _ hl => ?_⟩
      cases j with
      | zero => simpa using ha
      | succ j => simpa using hall _ (atD_mem (by simpa using hl))
theorem fnd_iff {xs : List Attr} {nm : ByteArray} : fnd xs nm = true ↔ lowB xs nm < xs.length ∧ (xs.getD (lowB xs nm) A0).n = nm := by unfold fnd; simp
theorem get_fnd {xs : List Attr} (h : xs.Pairwise (fun a b => ltS a.n b.n = true)) {nm : ByteArray} (hf : fnd xs nm = true) : getA xs nm = (xs.getD (lowB xs nm) A0).v := by
  obtain ⟨h1, h2⟩ := fnd_iff.1 hf
  exact getA_hit h1 h2 fun j hj => ltS_ne ((lowB_lo h nm).1 j hj)
theorem get_nfnd {xs : List Attr} (h : xs.Pairwise (fun a b => ltS a.n b.n = true)) {nm : ByteArray} (hf : fnd xs nm = false) : getA xs nm = ByteArray.empty := by
  refine getA_miss fun j hj e => ?_
  obtain ⟨l1, l2⟩ := lowB_lo h nm
  have hlt : ¬ j < lowB xs nm := fun hlt => ltS_ne (l1 j hlt) e
  unfold fnd at hf
  rw [decide_eq_false_iff_not] at hf
  apply hf
  by_cases hj2 : j = lowB xs nm
  · subst hj2; exact ⟨hj, e⟩
  · exfalso
    have hs := srt_at h (i := lowB xs nm) (j := j) (by omega) hj
    rw [e] at hs
    rw [l2 _ (Nat.le_refl _) (by omega)] at hs
    cases hs

end Go.Proofs.YtmbbmmnpkdfecaaGreatDoor

/- The name test of package path agrees with the byte-wise test, at every string of at most the model's longest length; the search for the first bad component, at every slice of strings. -/

set_option linter.all false
namespace Go.Proofs.YtmbbmmnpkdfecaaGreatDoor
open Go.RowKit

theorem decodeN_ascii {n b0 b1 b2 b3 : Nat} (h : b0 < 128) : Lib.decodeN n b0 b1 b2 b3 = (b0, 1) := by
  unfold Lib.decodeN; rw [if_pos h]
theorem decodeN_high {n b0 b1 b2 b3 : Nat} (h : 128 ≤ b0) : 128 ≤ (Lib.decodeN n b0 b1 b2 b3).1 := by
  unfold Lib.decodeN
  rw [if_neg (by omega)]
  repeat' split
  all_goals simp
  all_goals omega
theorem nameR_high {r : Int} (h : 128 ≤ r) : nameR r = false := by
  unfold nameR; rw [decide_eq_false_iff_not]; omega
theorem get_bang (s : ByteArray) (i : Nat) (h : i < s.size) : s.get! i = s[i] := by
  show s.data[i]! = s.data[i]'h
  exact getElem!_pos s.data i h

/-- The first rune that is not allowed exists exactly where some byte is not allowed. -/
theorem idx_bytes (s : ByteArray) : ∀ (f pos : Nat), s.size - pos ≤ f →
    (0 ≤ Lib.idxFuncFrom (fun r => !nameR (r : Int)) true s f pos ↔ ∃ j, pos ≤ j ∧ ∃ h : j < s.size, nameR (s[j].toNat : Int) = false)
  | 0, pos, hf => by
    rw [Lib.idxFuncFrom_end _ _ _ _ _ (by omega)]
    constructor
    · intro h; omega
    · rintro ⟨j, hj, h, _⟩; omega
  | f + 1, pos, hf => by
    by_cases hp : pos < s.size
    · unfold Lib.idxFuncFrom
      rw [if_pos hp, Lib.decode_at, get_bang s pos hp]
      by_cases hb : s[pos].toNat < 128
      · rw [decodeN_ascii hb]
        cases hn : nameR (s[pos].toNat : Int) with
        | true =>
          rw [if_neg (by simp)]
          rw [idx_bytes s f (pos + 1) (by omega)]
          constructor
          · rintro ⟨j, hj, h⟩; exact ⟨j, by omega, h⟩
          · rintro ⟨j, hj, h, hx⟩
            by_cases e : j = pos
            · subst e; rw [hn] at hx; cases hx
            · exact ⟨j, by omega, h, hx⟩
        | false =>
          rw [if_pos (by simp)]
          exact ⟨fun _ => ⟨pos, Nat.le_refl _, hp, hn⟩, fun _ => by omega⟩
      · have hh := decodeN_high (n := s.size - pos) (b0 := s[pos].toNat) (b1 := (s.get! (pos + 1)).toNat) (b2 := (s.get! (pos + 2)).toNat) (b3 := (s.get! (pos + 3)).toNat) (by omega)
        rw [if_pos (by simp [nameR_high (r := ((Lib.decodeN (s.size - pos) s[pos].toNat (s.get! (pos + 1)).toNat (s.get! (pos + 2)).toNat (s.get! (pos + 3)).toNat).1 : Int)) (by omega)])]
        exact ⟨fun _ => ⟨pos, Nat.le_refl _, hp, nameR_high (by omega)⟩, fun _ => by omega⟩
    · rw [Lib.idxFuncFrom_end _ _ _ _ _ hp]
      constructor
      · intro h; omega
      · rintro ⟨j, hj, h, _⟩; omega
theorem idx_vbytes (s : ByteArray) : decide (0 ≤ Lib.idxFunc (fun r => !nameR (r : Int)) true s) = !vbytes s := by
  have h := idx_bytes s s.size 0 (by omega)
  unfold Lib.idxFunc
  rw [Bool.eq_iff_iff, decide_eq_true_iff, h]
  unfold vbytes
  simp
theorem predName (w : World) : PredAt Tryz.prog 173 #[] encR (fun r => !nameR (r : Int)) w := fun W r _ => by
  refine (isName1_any r W).mono ?_
  rintro e w' ⟨rfl, rfl⟩
  exact ⟨rfl, 0, rfl⟩
theorem eg_name1 : ∀ args w, (callFunc 173 args).run Tryz.prog w = .ok (.enter 173 args) w := enters_of Tryz.func173 (by kernel_rfl) rfl
theorem vshape_empty {s : ByteArray} (h : s.toList = []) : vshape s = false := by
  have : s.size = 0 := by
    rw [Lib.toList_data] at h
    have := congrArg List.length h
    simpa using this
  unfold vshape; rw [decide_eq_false_iff_not]; omega

theorem size_pos {s : ByteArray} (h : ¬ s.toList = []) : 1 ≤ s.size := by
  rw [Lib.toList_data] at h
  have := List.length_pos_iff.2 h
  have h2 : 0 < s.size := by simpa using this
  omega

set_option maxHeartbeats 400000 in
theorem isName_any (s : ByteArray) (w : World) (hs : s.size ≤ maxLen) :
    Calls Tryz.prog 145 #[.string s] w fun e w' => e = .returned (.bool (vname s)) ∧ Below w.heap.size w w' := by
  unfold maxLen at hs
  have hcon := Tryz.strings_ContainsFunc 173 #[] eg_name1 (fun r => !nameR (r : Int)) s w (predName w)
  rw [idx_vbytes] at hcon
  have HC := Lib.hid hcon
  clear hcon
  cases hsh : vshape s with
  | false =>
    have HV := Lib.hid hsh
    clear hsh
    go_enter Tryz.func145, Tryz.ntmps145
    go_wp2
    all_goals first | (go_ret; exact ⟨ret_bool (vname_bad HV.out), Below.refl _ _⟩) | (exfalso; have h := HV.out; unfold vshape at h; rw [decide_eq_false_iff_not] at h; refine h ⟨size_pos ‹¬ s.toList = []›, by omega, by assumption, by simp_all⟩)
  | true =>
    have HV := Lib.hid hsh
    obtain ⟨h1, h2, h3, h4⟩ := vshape_iff.1 hsh
    have h3' : (s.toList == [46]) = false := by simpa using h3
    have h4' : (s.toList == [46, 46]) = false := by simpa using h4
    have h5' : s.toList.isEmpty = false := by
      cases h : s.toList with
      | nil => rw [vshape_empty h] at hsh; cases hsh
      | cons => rfl
    clear hsh h3 h4
    go_enter Tryz.func145, Tryz.ntmps145
    go_wp2_with (go_at_call 172; refine HC.out.mono ?_; rintro e w' ⟨rfl, hb⟩)
    go_ret
    refine ⟨ret_bool ?_, hb⟩
    unfold vname; rw [HV.out]; simp

set_option maxHeartbeats 400000 in
theorem comp1_any (s : ByteArray) (w : World) (hs : s.size ≤ maxLen) :
    Calls Tryz.prog 144 #[.string s] w fun e w' => e = .returned (.bool (!vname s)) ∧ Below w.heap.size w w' := by
  go_enter Tryz.func144, Tryz.ntmps144
  go_wp2_with (go_at_call 145; refine (isName_any _ _ hs).mono ?_; rintro e w' ⟨rfl, hb⟩)
  go_ret
  exact ⟨rfl, hb⟩

end Go.Proofs.YtmbbmmnpkdfecaaGreatDoor

/- checkComponents at every slice of strings: the number of the first component that is no name, or too many components. Conditions: the slice's cells lie in memory as they read; each string is of at most the model's longest length. -/

set_option linter.all false
namespace Go.Proofs.YtmbbmmnpkdfecaaGreatDoor
open Go.RowKit

/-- The slice value v reads as the strings xs, all of it below block B. -/
def Strs (w : World) (B : Nat) (v : Value) (xs : List ByteArray) : Prop :=
  ∃ a c, v = .slice a xs.length c ∧ xs.length ≤ c ∧ xs.length ≤ 35184372088832 ∧ (∀ x ∈ xs, x.size ≤ maxLen) ∧
    (0 < xs.length → ∃ b o, a = some ⟨b, o, none⟩ ∧ b < B ∧ ∀ j, j < xs.length → w.cell? ⟨b, o + j, none⟩ = some (.string (xs.getD j ByteArray.empty)))
theorem Strs.below {w w' : World} {B : Nat} {v : Value} {xs : List ByteArray} (h : Strs w B v xs) (hb : Below B w w') : Strs w' B v xs := by
  obtain ⟨a, c, hv, hc, hl, hs, hx⟩ := h
  refine ⟨a, c, hv, hc, hl, hs, fun h0 => ?_⟩
  obtain ⟨b, o, ha, hB, hj⟩ := hx h0
  exact ⟨b, o, ha, hB, fun j h => (hb.cell (p := ⟨b, o + j, none⟩) hB).trans (hj j h)⟩
theorem Strs.more {w : World} {B B' : Nat} {v : Value} {xs : List ByteArray} (h : Strs w B v xs) (hB : B ≤ B') : Strs w B' v xs := by
  obtain ⟨a, c, hv, hc, hl, hs, hx⟩ := h
  refine ⟨a, c, hv, hc, hl, hs, fun h0 => ?_⟩
  obtain ⟨b, o, ha, hb, hj⟩ := hx h0
  exact ⟨b, o, ha, by omega, hj⟩

theorem Strs.set {w : World} {B g o n c : Nat} {xs : List ByteArray} (h : Strs w B (.slice (some ⟨g, o, none⟩) n c) xs) {p : Addr} (hp : g ≠ p.block) (u : Value) : Strs (w.setCell p u) B (.slice (some ⟨g, o, none⟩) n c) xs := by
  obtain ⟨a, c', hv, hc, hl, hs, hx⟩ := h
  refine ⟨a, c', hv, hc, hl, hs, fun h0 => ?_⟩
  obtain ⟨b, o', ha, hB, hj⟩ := hx h0
  subst ha
  injection hv with h1
  injection h1 with h1
  injection h1 with h1 h2
  subst h1
  exact ⟨_, _, rfl, hB, fun j hjl => (World.cell?_setCell_other w p _ u (fun e => hp (by rw [e]))).trans (hj j hjl)⟩
theorem Strs.alloc {w : World} {B : Nat} {v : Value} {xs : List ByteArray} (h : Strs w B v xs) (hB : B ≤ w.heap.size) (o : Obj) : Strs (w.alloc o) B v xs :=
  h.below ((Below.refl B w).alloc hB o)

/-- The place of the first string that is no name, or the number of strings. -/
def firstBad (xs : List ByteArray) : Nat := xs.findIdx fun x => !vname x
theorem firstBad_hit {xs : List ByteArray} {k : Nat} (hk : k < xs.length) (hb : vname (xs.getD k ByteArray.empty) = false) (hA : ∀ j, j < k → vname (xs.getD j ByteArray.empty) = true) : firstBad xs = k := by
  unfold firstBad
  rw [List.findIdx_eq hk]
  have e : ∀ j, (h : j < xs.length) → xs.getD j ByteArray.empty = xs[j] := fun j h => by rw [List.getD_eq_getElem?_getD, List.getElem?_eq_getElem h]; rfl
  refine ⟨by rw [← e k hk, hb]; rfl, fun j hj => ?_⟩
  rw [← e j (by omega), hA j hj]; rfl
theorem firstBad_miss {xs : List ByteArray} (hA : ∀ j, j < xs.length → vname (xs.getD j ByteArray.empty) = true) : firstBad xs = xs.length := by
  unfold firstBad
  rw [List.findIdx_eq_length]
  intro x hx
  obtain ⟨j, hj, rfl⟩ := List.mem_iff_getElem.1 hx
  have := hA j hj
  rw [List.getD_eq_getElem?_getD, List.getElem?_eq_getElem hj] at this
  simpa using this
/-- What slices.IndexFunc answers: the place of the first string that is no name, or -1. -/
def fbI (xs : List ByteArray) : Int := if firstBad xs < xs.length then (firstBad xs : Int) else -1
theorem fbI_hit {xs : List ByteArray} {k : Nat} (hk : k < xs.length) (hb : vname (xs.getD k ByteArray.empty) = false) (hA : ∀ j, j < k → vname (xs.getD j ByteArray.empty) = true) : (k : Int) = fbI xs := by
  unfold fbI; rw [firstBad_hit hk hb hA, if_pos hk]
theorem fbI_miss {xs : List ByteArray} (hA : ∀ j, j < xs.length → vname (xs.getD j ByteArray.empty) = true) : -1 = fbI xs := by
  unfold fbI; rw [firstBad_miss hA, if_neg (Nat.lt_irrefl _)]
theorem eg_comp1 : ∀ args w, (callFunc 144 args).run Tryz.prog w = .ok (.enter 144 args) w := enters_of Tryz.func144 (by kernel_rfl) rfl

set_option maxHeartbeats 400000 in
theorem indexFunc_any (v : Value) (xs : List ByteArray) (w : World) (h : Strs w w.heap.size v xs) :
    Calls Tryz.prog 143 #[v, .func (.func 144) #[] #[]] w fun e w' => e = .returned (.int .i64 (fbI xs)) ∧ Below w.heap.size w w' := by
  obtain ⟨a, c, rfl, hc, hl, hs, hx⟩ := h
  have eg := eg_comp1
  go_enter Tryz.func143, Tryz.ntmps143
  go_wp2
  go_loopg [5, 8] xs.length (fun gg _ s8 wr => ∃ kk : Nat, kk ≤ xs.length ∧ xs.length - kk ≤ gg ∧ s8 = .int .i64 kk ∧ Aside (Below w.heap.size w wr) ∧ Aside (∀ j, j < kk → vname (xs.getD j ByteArray.empty) = true))
  case atStart => exact ⟨0, Nat.zero_le _, by omega, rfl, Below.refl _ w, fun j hj => absurd hj (Nat.not_lt_zero _)⟩
  case round =>
    obtain ⟨kk, hkk, hg, rfl, BW, A⟩ := hrel
    by_cases hlt : kk < xs.length
    · have hltz : (kk : Int) < (xs.length : Int) := by omega
      obtain ⟨b, o, rfl, hb, hj⟩ := hx (by omega)
      have hcell : wr.cell? ⟨b, o + kk, none⟩ = some (.string (xs.getD kk ByteArray.empty)) := (BW.out.cell (p := ⟨b, o + kk, none⟩) hb).trans (hj kk hlt)
      have hsz : (xs.getD kk ByteArray.empty).size ≤ maxLen := by
        rw [List.getD_eq_getElem?_getD, List.getElem?_eq_getElem hlt]; exact hs _ (List.getElem_mem hlt)
      clear hx hs hj
      generalize hy : xs.getD kk ByteArray.empty = y at hcell hsz
      have B : Aside (xs.getD kk ByteArray.empty = y) := hy
      clear hy
      have hcall := fun W => comp1_any y W hsz
      clear hsz
      cases hq : vname y with
      | false =>
        rw [hq] at hcall
        have Q : Aside (vname y = false) := hq
        clear hq
        go_wp2_with (go_at_fn 144; refine (hcall _).mono ?_; rintro e w' ⟨rfl, hb'⟩)
        go_ret
        exact ⟨ret_int (fbI_hit hlt (by rw [B.out]; exact Q.out) A.out), BW.out.trans (hb'.mono BW.out.size)⟩
      | true =>
        rw [hq] at hcall
        have Q : Aside (vname y = true) := hq
        clear hq
        go_wp2_with (go_at_fn 144; refine (hcall _).mono ?_; rintro e w' ⟨rfl, hb'⟩)
        go_roundg (xs.length - (kk + 1))
        case measure => omega
        case rel =>
          refine ⟨kk + 1, by omega, by omega, by go_num, BW.out.trans (hb'.mono BW.out.size), (show Aside _ from fun j hj => ?_)⟩
          by_cases e : j = kk
          · subst e
            rw [B.out]; exact Q.out
          · exact A.out j (by omega)
    · have hltz : ¬ (kk : Int) < (xs.length : Int) := by omega
      have e : kk = xs.length := by omega
      have E : Aside (kk = xs.length) := e
      clear e
      go_wp2
      go_ret
      exact ⟨ret_int (fbI_miss fun j hj => A.out j (by have := E.out; omega)), BW.out⟩

/-- The fault of a list of components. -/
def compFault (xs : List ByteArray) : Int × Int := if firstBad xs < xs.length then (12, firstBad xs) else if 8 < xs.length then (10, 0) else (0, 0)
def compV (xs : List ByteArray) : Value := faultV (compFault xs).1 (compFault xs).2

theorem compV_bad {xs : List ByteArray} (h : 0 ≤ fbI xs) : faultV 12 (fbI xs) = compV xs := by
  unfold fbI at *; unfold compV compFault
  split at h
  · rename_i hh; rw [if_pos hh, if_pos hh]
  · omega
theorem compV_deep {xs : List ByteArray} (h : fbI xs < 0) (h8 : 8 < xs.length) : faultV 10 0 = compV xs := by
  unfold fbI at *; unfold compV compFault
  split at h
  · omega
  · rename_i hh; rw [if_neg hh, if_pos h8]
theorem compV_ok {xs : List ByteArray} (h : fbI xs < 0) (h8 : ¬ 8 < xs.length) : faultV 0 0 = compV xs := by
  unfold fbI at *; unfold compV compFault
  split at h
  · omega
  · rename_i hh; rw [if_neg hh, if_neg h8]

set_option maxHeartbeats 400000 in
theorem checkComponents_any (v : Value) (xs : List ByteArray) (w : World) (h : Strs w w.heap.size v xs) :
    Calls Tryz.prog 94 #[v] w fun e w' => e = .returned (compV xs) ∧ Below w.heap.size w w' := by
  have hcon := fun W (hb : Below w.heap.size w W) => indexFunc_any v xs W ((h.below hb).more hb.size)
  obtain ⟨a, c, rfl, hc, hl, hs, hx⟩ := h
  clear hs hx
  have HX : Hid (∀ i, fbI xs = i → 0 ≤ i → faultV 12 i = compV xs) := Lib.hid (fun i e h0 => by subst e; exact compV_bad h0)
  have HY : Hid (∀ i, fbI xs = i → i < 0 → 8 < xs.length → faultV 10 0 = compV xs) := Lib.hid (fun i e h0 h8 => by subst e; exact compV_deep h0 h8)
  have HZ : Hid (∀ i, fbI xs = i → i < 0 → ¬ 8 < xs.length → faultV 0 0 = compV xs) := Lib.hid (fun i e h0 h8 => by subst e; exact compV_ok h0 h8)
  generalize hi : fbI xs = i at hcon
  have HI := Lib.hid hi
  clear hi
  have HC := Lib.hid hcon
  clear hcon
  go_enter Tryz.func94, Tryz.ntmps94
  go_wp2_with fail
  refine (HC.out _ ((Below.refl _ _).alloc (Nat.le_refl _) _)).mono ?_
  rintro e w' ⟨rfl, hb'⟩
  obtain ⟨hcc, hff⟩ := bcell hb'
  have hz : w.heap.size + 1 ≤ w'.heap.size := by have := hb'.size; simp at this; omega
  have hB : Below w.heap.size w w' := ((Below.refl _ _).alloc (Nat.le_refl _) _).trans (hb'.mono (by simp))
  go_wp2
  · exact bodyPost_ret (v := faultV 12 i) (by simp [results, Tryz.results94, faultV, go_sem, hcc]) rfl ⟨by rw [HX.out i HI.out (by assumption)], (hB.setCell (by simp) _).setCell (by simp) _⟩
  · exact bodyPost_ret (v := faultV 10 0) (by simp [results, Tryz.results94, faultV, go_sem, hcc]) rfl ⟨by rw [HY.out i HI.out (by omega) (by omega)], (hB.setCell (by simp) _).setCell (by simp) _⟩
  · exact bodyPost_ret (v := faultV 0 0) (by simp [results, Tryz.results94, faultV, go_sem, hcc]) rfl ⟨by rw [HZ.out i HI.out (by omega) (by omega)], (hB.setCell (by simp) _).setCell (by simp) _⟩

end Go.Proofs.YtmbbmmnpkdfecaaGreatDoor

/- Slices of attributes in memory: what a slice reads as, kept over new blocks; rows that a call owns, as the list of their cells; append to such a row. Conditions: as each theorem states. -/

set_option linter.all false
namespace Go.Proofs.YtmbbmmnpkdfecaaGreatDoor
open Go.RowKit

/-- The slice value v reads as the attributes xs, all of it below block B. -/
def Ats (w : World) (B : Nat) (v : Value) (xs : List Attr) : Prop :=
  ∃ a c, v = .slice a xs.length c ∧ xs.length ≤ c ∧ xs.length ≤ 4398046511104 ∧ (∀ e ∈ xs, e.fits) ∧
    (0 < xs.length → ∃ b o, a = some ⟨b, o, none⟩ ∧ b < B ∧ ∀ j, j < xs.length →
      w.cell? ⟨b, o + j * 2, none⟩ = some (.string (xs.getD j A0).n) ∧ w.cell? ⟨b, o + j * 2 + 1, none⟩ = some (.string (xs.getD j A0).v))
theorem Ats.keep {w w' : World} {B : Nat} {v : Value} {xs : List Attr} (h : Ats w B v xs) (hk : ∀ b o, b < B → w'.cell? ⟨b, o, none⟩ = w.cell? ⟨b, o, none⟩) : Ats w' B v xs := by
  obtain ⟨a, c, hv, hc, hl, hf, hx⟩ := h
  refine ⟨a, c, hv, hc, hl, hf, fun h0 => ?_⟩
  obtain ⟨b, o, ha, hB, hj⟩ := hx h0
  refine ⟨b, o, ha, hB, fun j h => ?_⟩
  rw [hk _ _ hB, hk _ _ hB]
  exact hj j h
theorem Ats.below {w w' : World} {B : Nat} {v : Value} {xs : List Attr} (h : Ats w B v xs) (hb : Below B w w') : Ats w' B v xs :=
  h.keep fun b o hB => hb.cell (p := ⟨b, o, none⟩) hB
theorem Ats.more {w : World} {B B' : Nat} {v : Value} {xs : List Attr} (h : Ats w B v xs) (hB : B ≤ B') : Ats w B' v xs := by
  obtain ⟨a, c, hv, hc, hl, hf, hx⟩ := h
  refine ⟨a, c, hv, hc, hl, hf, fun h0 => ?_⟩
  obtain ⟨b, o, ha, hb, hj⟩ := hx h0
  exact ⟨b, o, ha, by omega, hj⟩
/-- Over whatever leaves all blocks of w alone. -/
theorem Ats.up {w w' : World} {v : Value} {xs : List Attr} (h : Ats w w.heap.size v xs) (hb : Below w.heap.size w w') : Ats w' w'.heap.size v xs :=
  (h.below hb).more hb.size
theorem Ats.alloc {w : World} {B : Nat} {v : Value} {xs : List Attr} (h : Ats w B v xs) (hB : B ≤ w.heap.size) (o : Obj) : Ats (w.alloc o) B v xs :=
  h.below ((Below.refl B w).alloc hB o)
theorem Ats.drewN {w : World} {B : Nat} {v : Value} {xs : List Attr} (h : Ats w B v xs) (q : Nat) : Ats (w.drewN q) B v xs :=
  h.keep fun _ _ _ => rfl
theorem Ats.none_ (w : World) (B : Nat) : Ats w B (.slice none 0 0) [] :=
  ⟨none, 0, rfl, by simp, by simp, by simp, fun h => absurd h (by simp)⟩
theorem Ats.fits {w : World} {B : Nat} {v : Value} {xs : List Attr} (h : Ats w B v xs) : ∀ e ∈ xs, e.fits := by
  obtain ⟨_, _, _, _, _, hf, _⟩ := h; exact hf
theorem Ats.form {w : World} {B n : Nat} {v : Value} {xs : List Attr} (h : Ats w B v xs) (hn : xs.length = n) : ∃ a c, v = .slice a n c ∧ n ≤ c := by
  subst hn
  obtain ⟨a, c, hv, hc, _⟩ := h
  exact ⟨a, c, hv, hc⟩
theorem ats_one (w : World) (n : Nat) (hn : n = w.heap.size) (e : Attr) (hf : e.fits) (t : TypeId) : Ats (w.alloc (.cells #[.string e.n, .string e.v] t)) (w.heap.size + 1) (.slice (some ⟨n, 0, none⟩) 1 1) [e] := by
  subst hn
  refine ⟨_, _, rfl, by simp, by simp, by simpa using hf, fun _ => ⟨_, _, rfl, by simp, ?_⟩⟩
  intro j hj
  match j, hj with
  | 0, _ => simp
theorem Ats.cut {w : World} {B : Nat} {a : Option Addr} {n c : Nat} {xs : List Attr} (h : Ats w B (.slice a n c) xs) {k : Nat} (hk : k ≤ n) : Ats w B (.slice a k c) (xs.take k) := by
  obtain ⟨a', c', hv, hc, hl, hf, hx⟩ := h
  injection hv with h1 hn h2
  subst h1 h2 hn
  have hlen : (xs.take k).length = k := by simp; omega
  refine ⟨a, c, by rw [hlen], by omega, by omega, fun e he => hf e (List.mem_of_mem_take he), fun h0 => ?_⟩
  obtain ⟨b, o, ha, hB, hj⟩ := hx (by omega)
  refine ⟨b, o, ha, hB, fun j h => ?_⟩
  have e : (xs.take k).getD j A0 = xs.getD j A0 := by
    rw [List.getD_eq_getElem?_getD, List.getD_eq_getElem?_getD, List.getElem?_take_of_lt (by omega)]
  rw [e]; exact hj j (by omega)
theorem Ats.from_ {w : World} {B b o n c : Nat} {xs : List Attr} (h : Ats w B (.slice (some ⟨b, o, none⟩) n c) xs) {k : Nat} (hk : k ≤ n) : Ats w B (.slice (some ⟨b, o + k * 2, none⟩) (n - k) (c - k)) (xs.drop k) := by
  obtain ⟨a', c', hv, hc, hl, hf, hx⟩ := h
  injection hv with h1 hn h2
  subst h1 h2 hn
  have hlen : (xs.drop k).length = xs.length - k := by simp
  refine ⟨_, c - k, by rw [hlen], by omega, by omega, fun e he => hf e (List.mem_of_mem_drop he), fun h0 => ?_⟩
  obtain ⟨b', o', ha, hB, hj⟩ := hx (by omega)
  injection ha with ha
  injection ha with ha1 ha2
  subst ha1 ha2
  refine ⟨b, _, rfl, hB, fun j h => ?_⟩
  have e : (xs.drop k).getD j A0 = xs.getD (k + j) A0 := by
    rw [List.getD_eq_getElem?_getD, List.getD_eq_getElem?_getD, List.getElem?_drop]
  rw [e]
  have := hj (k + j) (by omega)
  have e1 : o + k * 2 + j * 2 = o + (k + j) * 2 := by omega
  rw [e1]; exact this

/-- Block n holds an attribute. -/
structure AB (w : World) (n : Nat) (x y : ByteArray) : Prop where
  lt : n < w.heap.size
  c0 : w.cell? ⟨n, 0, none⟩ = some (.string x)
  c1 : w.cell? ⟨n, 1, none⟩ = some (.string y)
theorem AB.new (w : World) (x y : ByteArray) (t : TypeId) : AB (w.alloc (.cells #[.string x, .string y] t)) w.heap.size x y :=
  ⟨by simp, by simp, by simp⟩
theorem AB.below {w w' : World} {B n : Nat} {x y : ByteArray} (h : AB w n x y) (hb : Below B w w') (hn : n < B) : AB w' n x y :=
  ⟨Nat.lt_of_lt_of_le h.lt hb.size, (hb.cell (p := ⟨n, 0, none⟩) hn).trans h.c0, (hb.cell (p := ⟨n, 1, none⟩) hn).trans h.c1⟩
theorem AB.alloc {w : World} {n : Nat} {x y : ByteArray} (h : AB w n x y) (o : Obj) : AB (w.alloc o) n x y :=
  h.below ((Below.refl w.heap.size w).alloc (Nat.le_refl _) o) h.lt
theorem AB.at_ {w : World} {n n' : Nat} {x y : ByteArray} (h : AB w n x y) (e : n = n') : AB w n' x y := e ▸ h
theorem AB.drewN {w : World} {n : Nat} {x y : ByteArray} (h : AB w n x y) (k : Nat) : AB (w.drewN k) n x y := ⟨h.lt, h.c0, h.c1⟩
theorem AB.grown {w w' : World} {n : Nat} {x y : ByteArray} {row : Option Nat} (h : AB w n x y) (hg : w.grownBy w' row) (hn : some n ≠ row) : AB w' n x y := by
  have hb := hg.block n h.lt hn
  exact ⟨Nat.lt_of_lt_of_le h.lt hg.size, (World.cell?_of_block (a := ⟨n, 0, none⟩) hb).trans h.c0, (World.cell?_of_block (a := ⟨n, 1, none⟩) hb).trans h.c1⟩


def Attr.cells (e : Attr) : List Value := [.string e.n, .string e.v]
def flatA (es : List Attr) : List Value := es.flatMap Attr.cells
theorem flatA_cons (e : Attr) (es : List Attr) : flatA (e :: es) = .string e.n :: .string e.v :: flatA es := by
  unfold flatA Attr.cells; rw [List.flatMap_cons]; rfl
theorem flatA_append (xs ys : List Attr) : flatA (xs ++ ys) = flatA xs ++ flatA ys := by unfold flatA; rw [List.flatMap_append]
theorem flatA_len : ∀ es : List Attr, (flatA es).length = es.length * 2
  | [] => rfl
  | e :: es => by rw [flatA_cons]; simp only [List.length_cons]; rw [flatA_len es]; omega
theorem flatA_one : ∀ (es : List Attr), ∀ u ∈ flatA es, u.oneCell' = true
  | [], u, h => by simp [flatA] at h
  | e :: es, u, h => by
    rw [flatA_cons] at h
    rcases List.mem_cons.1 h with rfl | h
    · rfl
    · rcases List.mem_cons.1 h with rfl | h
      · rfl
      · exact flatA_one es u h
theorem flatA_get : ∀ (es : List Attr) (j : Nat), j < es.length →
    (flatA es)[j * 2]? = some (.string (es.getD j A0).n) ∧ (flatA es)[j * 2 + 1]? = some (.string (es.getD j A0).v)
  | [], j, h => absurd h (by simp)
  | e :: es, 0, _ => by rw [flatA_cons]; simp
  | e :: es, j + 1, h => by
    have ih := flatA_get es j (by simpa using h)
    have e1 : (j + 1) * 2 = j * 2 + 1 + 1 := by omega
    rw [flatA_cons, e1]
    simpa using ih

theorem ats_own {w : World} {base n : Nat} {v : Value} {es : List Attr} (h : w.ownsRow base 28 2 v n (flatA es)) (hf : ∀ e ∈ es, e.fits) (hl : es.length ≤ 4398046511104) : Ats w w.heap.size v es := by
  have hn : n = es.length := by have := h.1; rw [flatA_len] at this; omega
  subst hn
  rcases h.2 with ⟨hv, h0⟩ | ⟨g, cap, cur, hv, _, hg, hnc, _, _, _⟩
  · have : es = [] := List.eq_nil_of_length_eq_zero h0
    subst this
    rw [hv]; exact Ats.none_ _ _
  · have hlt : g < w.heap.size := by
      rcases Nat.lt_or_ge g w.heap.size with hlt | hge
      · exact hlt
      · rw [Array.getElem?_eq_none hge] at hg; cases hg
    rw [hv] at h
    refine ⟨_, cap, hv, hnc, hl, hf, fun _ => ⟨g, 0, rfl, hlt, fun j hj => ?_⟩⟩
    obtain ⟨h1, h2⟩ := flatA_get es j hj
    rw [← h.cellAt (j * 2) (by omega)] at h1
    rw [← h.cellAt (j * 2 + 1) (by omega)] at h2
    simp only [Nat.zero_add]
    exact ⟨h1, h2⟩

theorem own_attr (w : World) (base n : Nat) (hn : n = w.heap.size) (hb : base ≤ w.heap.size) (e : Attr) : (w.alloc (.cells #[.string e.n, .string e.v] 28)).ownsRow base 28 2 (.slice (some ⟨n, 0, none⟩) 1 1) 1 (flatA [e]) := by
  subst hn
  refine ⟨rfl, .inr ⟨_, 1, _, rfl, hb, heap_alloc_new w _, by omega, by simp [maxLen], rfl, rfl⟩⟩

theorem attr_info : (Tryz.prog.info? 28).map (fun i => (i.zero, i.size, i.bytes)) = some (some (.agg #[.string ByteArray.empty, .string ByteArray.empty]), 2, 32) := by kernel_rfl

/-- append(s, x...): s a row of the call's own (or nil), x any list of attributes. -/
theorem wpList_append_attrs {w : World} {ops : Array Oper} {rest : List Oper} {o : Oper} {a : Act} {Q : Exit → Act → World → Prop} (hgd : o.guard = none) (s x : Operand)
    (ho : o.op = .call { callee := .builtin .append, args := #[s, x], argTypes := #[61, 61] })
    (base : Nat) (v : Value) (n : Nat) (xs : List Attr) (hs : a.eval s = v) (hown : w.ownsRow base 28 2 v n (flatA xs))
    (B : Nat) (u : Value) (es : List Attr) (hx : a.eval x = u) (hA : Ats w B u es)
    (hbytes : (n + es.length) * 32 ≤ 140737488355328) (hbase : base ≤ w.heap.size)
    (h : ∀ v' w', w'.ownsRow base 28 2 v' (n + es.length) (flatA (xs ++ es)) → w.grownBy w' v.ownBlock → wpList Tryz.prog ops Q rest (a.put o.dst v') w') : wpList Tryz.prog ops Q (o :: rest) a w := by
  obtain ⟨i0, hi, hz0, hz1, hz2⟩ := info_parts attr_info
  obtain ⟨ad, c, rfl, hc, hl, hf, hcell⟩ := hA
  by_cases h0 : es.length = 0
  · have he : es = [] := List.eq_nil_of_length_eq_zero h0
    subst he
    cases ad with
    | none =>
      refine wpList_plain hgd fun K hK => ?_
      have hrun : (Builtin.append_ #[61, 61] o.type #[v, .slice none 0 c]).run Tryz.prog w = .ok v w := by
        rcases hown.2 with ⟨rfl, _⟩ | ⟨g, cap, cur, rfl, _, _, hnc, _⟩
        · simp [Builtin.append_, run_underlying Tryz.underlying61, sizeOf, typeInfo, hi, Builtin.lenOf, Builtin.firstCells]
        · simp [Builtin.append_, run_underlying Tryz.underlying61, sizeOf, typeInfo, hi, Builtin.lenOf, Builtin.firstCells, hnc, storeCells]
      unfold Oper.wp
      simp [execOp, ho, resolve, invoke, builtin, hs, hx, hrun, Result.andThen]
      exact hK _ _ (h v w (by simpa using hown) (World.grownBy.refl w _))
    | some ad =>
      refine wpList_append_own w hgd s x 61 ho base 28 i0 _ 2 32 Tryz.underlying61 hi hz0 hz1 hz2 rfl (by omega) v n (flatA xs) hs hown ad _ c (flatA []) hx rfl (by intro j u hu; simp [flatA] at hu) (flatA_one _) (by unfold maxLen; omega) (by omega) hbase fun v' w' h1 h2 _ => h v' w' (by rw [flatA_append]; exact h1) h2
  · obtain ⟨b, of, rfl, hB, hj⟩ := hcell (by omega)
    refine wpList_append_own w hgd s x 61 ho base 28 i0 _ 2 32 Tryz.underlying61 hi hz0 hz1 hz2 rfl (by omega) v n (flatA xs) hs hown ⟨b, of, none⟩ _ c (flatA es) hx (flatA_len es) (by
      intro j u hu
      have hjl : j < es.length * 2 := by
        rw [← flatA_len es]
        exact (List.getElem?_eq_some_iff.1 hu).1
      obtain ⟨q, hq, hr⟩ : ∃ q, q < es.length ∧ (j = q * 2 ∨ j = q * 2 + 1) := ⟨j / 2, by omega, by omega⟩
      obtain ⟨h1, h2⟩ := flatA_get es q hq
      obtain ⟨g1, g2⟩ := hj q hq
      have hadd : (⟨b, of, none⟩ : Addr).add j = ⟨b, of + j, none⟩ := by unfold Addr.add; split <;> simp_all
      rw [hadd]
      rcases hr with rfl | rfl
      · rw [h1] at hu; rw [← Option.some.inj hu]; exact g1
      · rw [h2] at hu; rw [← Option.some.inj hu]; exact g2) (flatA_one _) (by unfold maxLen; omega) (by omega) hbase fun v' w' h1 h2 _ => h v' w' (by rw [flatA_append]; exact h1) h2

end Go.Proofs.YtmbbmmnpkdfecaaGreatDoor

/- path.Join and the reference's Join at every slice of strings: both return the same path or fault. Conditions: the slice's cells lie in memory as they read. -/

set_option linter.all false
namespace Go.Proofs.YtmbbmmnpkdfecaaGreatDoor
open Go.RowKit

/-- The path with the given components. -/
def pstr (xs : List ByteArray) : List UInt8 := if xs = [] then [47] else xs.flatMap fun x => 47 :: x.data.toList
theorem pstr_join (xs : List ByteArray) : 47 :: Lib.join (xs.map (·.data.toList)) [47] = pstr xs := by
  unfold pstr
  cases xs with
  | nil => rfl
  | cons x r =>
    rw [if_neg (by simp)]
    induction r generalizing x with
    | nil => simp [Lib.join]
    | cons y r ih => 
      have := ih y
      simp [Lib.join] at this ⊢
      rw [this]
/-- What Join returns. -/
def joinS (xs : List ByteArray) : List UInt8 := if (compFault xs).1 = 0 then (if 100 < (pstr xs).length then [] else pstr xs) else []
def joinF (xs : List ByteArray) : Int × Int := if (compFault xs).1 = 0 then (if 100 < (pstr xs).length then (2, 0) else (0, 0)) else compFault xs
def joinV (xs : List ByteArray) : Value := .tuple #[.string ⟨(joinS xs).toArray⟩, faultV (joinF xs).1 (joinF xs).2]

set_option maxHeartbeats 400000 in
theorem pathJoin_bad (v : Value) (xs : List ByteArray) (w : World) (h : Strs w w.heap.size v xs) (hbad : (compFault xs).1 ≠ 0) :
    Calls Tryz.prog 110 #[v] w fun e w' => e = .returned (joinV xs) ∧ Below w.heap.size w w' := by
  have HJ : Hid (joinV xs = .tuple #[.string ⟨#[]⟩, faultV (compFault xs).1 (compFault xs).2]) := Lib.hid (by unfold joinV joinS joinF; rw [if_neg hbad, if_neg hbad])
  have hcon := fun W (hb : Below w.heap.size w W) => checkComponents_any v xs W ((h.below hb).more hb.size)
  unfold compV faultV at hcon
  generalize (compFault xs).1 = c at *
  generalize (compFault xs).2 = i at *
  have hc1 : (c != 0) = true := by simpa using hbad
  have hc2 : (c == 0) = false := by simpa using hbad
  clear hbad h
  have HC := Lib.hid hcon
  clear hcon
  go_enter Tryz.func110, Tryz.ntmps110
  go_wp2_with fail
  refine (HC.out _ ((Below.refl _ _).alloc (Nat.le_refl _) _)).mono ?_
  rintro e w' ⟨rfl, hb'⟩
  obtain ⟨hcc, hff⟩ := bcell hb'
  have hz : w.heap.size + 1 ≤ w'.heap.size := by have := hb'.size; simp at this; omega
  have hB : Below w.heap.size w w' := ((Below.refl _ _).alloc (Nat.le_refl _) _).trans (hb'.mono (by simp))
  go_wp2
  have hlt : w.heap.size < w'.heap.size := by omega
  have g0 : w'.cell? ⟨w.heap.size, 0, none⟩ = some (.int .i64 0) := by rw [hcc _ _ (by simp)]; simp
  have g1 : w'.cell? ⟨w.heap.size, 1, none⟩ = some (.int .i64 0) := by rw [hcc _ _ (by simp)]; simp
  have f0 : w'.frozen? ⟨w.heap.size, 0, none⟩ = false := by rw [hff _ _ (by simp)]; simp
  have f1 : w'.frozen? ⟨w.heap.size, 1, none⟩ = false := by rw [hff _ _ (by simp)]; simp
  go_region
  go_wp2
  refine bodyPost_ret (v := .tuple #[.string ⟨#[]⟩, faultV c i]) ?_ rfl ⟨by rw [HJ.out], ?_⟩
  · simp [results, Tryz.results110, faultV, go_sem, hcc, hlt]
  · repeat (first | exact hB | refine Below.setCell ?_ (by simp) _ | refine Below.alloc ?_ (by simp; omega) _ | refine Below.drew ?_)

theorem compFault_ok {xs : List ByteArray} (h : (compFault xs).1 = 0) : xs.length ≤ 8 ∧ (compFault xs).2 = 0 ∧ ∀ x ∈ xs, vname x = true := by
  unfold compFault at *
  split at h
  · cases h
  · rename_i hn
    split at h
    · cases h
    · rename_i h8
      rw [if_neg hn, if_neg h8]
      refine ⟨by omega, rfl, fun x hx => ?_⟩
      have hle : firstBad xs ≤ xs.length := List.findIdx_le_length
      have he : firstBad xs = xs.length := by omega
      unfold firstBad at he
      rw [List.findIdx_eq_length] at he
      simpa using he x hx
theorem vname_size {s : ByteArray} (h : vname s = true) : 1 ≤ s.size ∧ s.size ≤ 12 := by
  unfold vname at h
  rw [Bool.and_eq_true] at h
  have := vshape_iff.1 h.1
  exact ⟨this.1, this.2.1⟩
theorem flat_len : ∀ (xs : List ByteArray), (∀ x ∈ xs, vname x = true) → (xs.flatMap fun x => 47 :: x.data.toList).length ≤ 13 * xs.length
  | [], _ => by simp
  | x :: r, h => by
    have h1 := flat_len r fun y hy => h y (by simp [hy])
    have h2 := (vname_size (h x (by simp))).2
    have h3 : x.data.toList.length = x.size := by simp
    simp only [List.flatMap_cons, List.length_append, List.length_cons] at *
    omega
theorem pstr_len {xs : List ByteArray} (h : (compFault xs).1 = 0) : (pstr xs).length ≤ 105 := by
  obtain ⟨h8, _, hv⟩ := compFault_ok h
  unfold pstr
  split
  · simp
  · have := flat_len xs hv
    omega

theorem stringsJoin_any (v : Value) (xs : List ByteArray) (w : World) (h : Strs w w.heap.size v xs) (hl : (Lib.join (xs.map (·.data.toList)) [47]).length ≤ 1000) :
    Calls Tryz.prog 152 #[v, .string ⟨#[47]⟩] w fun e w' => e = .returned (.string ⟨(Lib.join (xs.map (·.data.toList)) [47]).toArray⟩) ∧ Below w.heap.size w w' := by
  obtain ⟨a, c, rfl, hc, hn, hs, hx⟩ := h
  by_cases h0 : 0 < xs.length
  · obtain ⟨b, o, rfl, hb, hj⟩ := hx h0
    exact Tryz.strings_Join b o c xs ⟨#[47]⟩ w (fun j x hjx => by
      have hjl : j < xs.length := (List.getElem?_eq_some_iff.1 hjx).1
      rw [hj j hjl, List.getD_eq_getElem?_getD, hjx]; rfl) hb (by omega) hc (by show (Lib.join (xs.map (·.data.toList)) [47]).length ≤ _; omega)
  · have e : xs = [] := List.eq_nil_of_length_eq_zero (by omega)
    subst e
    exact (Tryz.strings_Join_none a c ⟨#[47]⟩ w).mono fun e w' ⟨he, hw⟩ => ⟨he, hw ▸ Below.refl _ _⟩

set_option maxHeartbeats 400000 in
theorem pathJoin_ok (v : Value) (xs : List ByteArray) (w : World) (h : Strs w w.heap.size v xs) (hok : (compFault xs).1 = 0) :
    Calls Tryz.prog 110 #[v] w fun e w' => e = .returned (joinV xs) ∧ Below w.heap.size w w' := by
  have hlen := pstr_len hok
  rw [← pstr_join] at hlen
  have HJ : Hid (joinV xs = .tuple #[.string ⟨(if 100 < (pstr xs).length then [] else pstr xs).toArray⟩, faultV (if 100 < (pstr xs).length then 2 else 0) 0]) := Lib.hid (by
    unfold joinV joinS joinF; rw [if_pos hok, if_pos hok]; split <;> rfl)
  have hcon := fun W (hb : Below w.heap.size w W) => checkComponents_any v xs W ((h.below hb).more hb.size)
  have hjoin := fun W (hb : Below w.heap.size w W) => stringsJoin_any v xs W ((h.below hb).more hb.size) (by simp at hlen; omega)
  unfold compV faultV at hcon
  have hok2 := (compFault_ok hok).2.1
  rw [hok, hok2] at hcon
  rw [← pstr_join] at HJ
  clear hok hok2 h
  generalize Lib.join (xs.map (·.data.toList)) [47] = J at *
  have HC := Lib.hid hcon
  have HD := Lib.hid hjoin
  clear hcon hjoin
  have hJ : ¬ 9223372036854775807 < 1 + J.length := by simp at hlen; omega
  clear hlen
  go_enter Tryz.func110, Tryz.ntmps110
  go_wp2_with fail
  refine (HC.out _ ((Below.refl _ _).alloc (Nat.le_refl _) _)).mono ?_
  rintro e w' ⟨rfl, hb'⟩
  obtain ⟨hcc, hff⟩ := bcell hb'
  have hz : w.heap.size + 1 ≤ w'.heap.size := by have := hb'.size; simp at this; omega
  have hB : Below w.heap.size w w' := ((Below.refl _ _).alloc (Nat.le_refl _) _).trans (hb'.mono (by simp))
  have g0 : w'.cell? ⟨w.heap.size, 0, none⟩ = some (.int .i64 0) := by rw [hcc _ _ (by simp)]; simp
  have g1 : w'.cell? ⟨w.heap.size, 1, none⟩ = some (.int .i64 0) := by rw [hcc _ _ (by simp)]; simp
  have f0 : w'.frozen? ⟨w.heap.size, 0, none⟩ = false := by rw [hff _ _ (by simp)]; simp
  have f1 : w'.frozen? ⟨w.heap.size, 1, none⟩ = false := by rw [hff _ _ (by simp)]; simp
  clear hcc hff hb'
  go_wp2_with fail
  refine (HD.out _ (hB.alloc (by omega) _)).mono ?_
  rintro e w2 ⟨rfl, hb2⟩
  have hz2 : w'.heap.size + 1 ≤ w2.heap.size := by have := hb2.size; simp at this; omega
  have hlt : w.heap.size < w2.heap.size := by omega
  obtain ⟨hcc, hff⟩ := bcell hb2
  have k0 : w2.cell? ⟨w.heap.size, 0, none⟩ = some (.int .i64 0) := by rw [hcc _ _ (by simp; omega), World.cell?_alloc_lt _ _ _ (by simp; omega)]; exact g0
  have k1 : w2.cell? ⟨w.heap.size, 1, none⟩ = some (.int .i64 0) := by rw [hcc _ _ (by simp; omega), World.cell?_alloc_lt _ _ _ (by simp; omega)]; exact g1
  have e0 : w2.frozen? ⟨w.heap.size, 0, none⟩ = false := by rw [hff _ _ (by simp; omega), World.frozen?_alloc_past _ _ _ (by omega)]; exact f0
  have e1 : w2.frozen? ⟨w.heap.size, 1, none⟩ = false := by rw [hff _ _ (by simp; omega), World.frozen?_alloc_past _ _ _ (by omega)]; exact f1
  have hB2 : Below w.heap.size w w2 := (hB.alloc (by omega) _).trans (hb2.mono (by simp; omega))
  clear hcc hff hb2 g0 g1 f0 f1
  go_wp2
  · have hl : 100 < (47 :: J).length := by simp; omega
    refine bodyPost_ret (v := .tuple #[.string ⟨#[]⟩, faultV 2 0]) ?_ rfl ⟨by rw [HJ.out, if_pos hl, if_pos hl], ?_⟩
    · simp [results, Tryz.results110, faultV, go_sem, k0, k1]
    · repeat (first | exact hB2 | refine Below.setCell ?_ (by simp) _ | refine Below.alloc ?_ (by simp; omega) _ | refine Below.drew ?_)
  · have hl : ¬ 100 < (47 :: J).length := by simp; omega
    refine bodyPost_ret (v := .tuple #[.string (⟨#[47]⟩ ++ ⟨J.toArray⟩), faultV 0 0]) ?_ rfl ⟨?_, ?_⟩
    · simp [results, Tryz.results110, faultV, go_sem, k0, k1]
    · rw [HJ.out, if_neg hl, if_neg hl]; congr 4
    · repeat (first | exact hB2 | refine Below.setCell ?_ (by simp) _ | refine Below.alloc ?_ (by simp; omega) _ | refine Below.drew ?_)

theorem pathJoin_any (v : Value) (xs : List ByteArray) (w : World) (h : Strs w w.heap.size v xs) :
    Calls Tryz.prog 110 #[v] w fun e w' => e = .returned (joinV xs) ∧ Below w.heap.size w w' := by
  by_cases hok : (compFault xs).1 = 0
  · exact pathJoin_ok v xs w h hok
  · exact pathJoin_bad v xs w h hok

end Go.Proofs.YtmbbmmnpkdfecaaGreatDoor

/- The reference's AttrCode at every attribute. Conditions: the strings are of at most the model's longest length. -/

set_option linter.all false
namespace Go.Proofs.YtmbbmmnpkdfecaaGreatDoor
open Go.RowKit

set_option maxHeartbeats 400000 in
theorem attrCode_any (x y : ByteArray) (w : World) (hx : x.size ≤ maxLen) (hy : y.size ≤ maxLen) :
    Calls Tryz.prog 79 #[.agg #[.string x, .string y]] w fun e w' => e = .returned (.int .i64 (codeA ⟨x, y⟩)) ∧ Below w.heap.size w w' := by
  have hc := fun W => validName_any x W hx
  unfold maxLen at hy
  have HF := Lib.hid (show codeA ⟨x, y⟩ = if vname x = true then (if 20 < y.size then 10 else 0) else 12 from rfl)
  generalize codeA ⟨x, y⟩ = q at *
  cases hv : vname x with
  | false =>
    rw [hv] at hc HF
    rw [if_neg (by simp)] at HF
    clear hv
    go_enter Tryz.func79, Tryz.ntmps79
    go_wp2_with fail
    refine (hc _).mono ?_
    rintro e w' ⟨rfl, rfl⟩
    go_wp2
    go_ret
    exact ⟨ret_int HF.out.symm, (Below.refl _ _).alloc (Nat.le_refl _) _⟩
  | true =>
    rw [hv] at hc HF
    rw [if_pos rfl] at HF
    clear hv
    go_enter Tryz.func79, Tryz.ntmps79
    go_wp2_with fail
    refine (hc _).mono ?_
    rintro e w' ⟨rfl, rfl⟩
    go_wp2
    · go_ret
      exact ⟨ret_int (by rw [HF.out, if_pos (by omega)]), (Below.refl _ _).alloc (Nat.le_refl _) _⟩
    · go_ret
      exact ⟨ret_int (by rw [HF.out, if_neg (by omega)]), (Below.refl _ _).alloc (Nat.le_refl _) _⟩

end Go.Proofs.YtmbbmmnpkdfecaaGreatDoor

/- Splitting a string at slashes: the plain function, that the library's split is it, and that a scan from the left comes to it. Plain facts on lists of bytes. -/

set_option linter.all false
namespace Go.Proofs.YtmbbmmnpkdfecaaGreatDoor
open Go.RowKit

/-- The pieces between the slashes. -/
def pieces : List UInt8 → List (List UInt8)
  | [] => [[]]
  | c :: r => if c = 47 then [] :: pieces r else match pieces r with
    | [] => [[c]]
    | p :: ps => (c :: p) :: ps
theorem pieces_ne (s : List UInt8) : pieces s ≠ [] := by
  cases s with
  | nil => simp [pieces]
  | cons c r =>
    unfold pieces
    split
    · simp
    · split <;> simp
theorem pieces_form (s : List UInt8) : ∃ p ps, pieces s = p :: ps := by
  cases h : pieces s with
  | nil => exact absurd h (pieces_ne s)
  | cons p ps => exact ⟨p, ps, rfl⟩
theorem pieces_slash (r : List UInt8) : pieces (47 :: r) = [] :: pieces r := by rw [pieces, if_pos rfl]
theorem pieces_other {c : UInt8} {r : List UInt8} {p : List UInt8} {ps : List (List UInt8)} (hc : c ≠ 47) (h : pieces r = p :: ps) : pieces (c :: r) = (c :: p) :: ps := by
  rw [pieces, if_neg hc, h]
theorem splitK_pieces : ∀ s : List UInt8, Lib.splitK [47] 0 (s.count 47) s = pieces s
  | [] => rfl
  | c :: r => by
    by_cases hc : c = 47
    · subst hc
      rw [List.count_cons_self, pieces_slash]
      unfold Lib.splitK
      have hi : Lib.index (47 :: r) [47] = 0 := by rw [Lib.index_one]; simp [Lib.indexByte]
      rw [hi]
      simp only [Int.toNat_zero, List.take_zero, List.length_cons, List.length_nil, Nat.zero_add, List.drop_succ_cons, List.drop_zero]
      rw [if_neg (by decide), splitK_pieces r]
    · have ih := splitK_pieces r
      rw [List.count_cons_of_ne hc]
      obtain ⟨p, ps, hp⟩ := pieces_form r
      rw [pieces_other hc hp]
      rw [hp] at ih
      have hidx : Lib.index (c :: r) [47] = if Lib.index r [47] == -1 then -1 else Lib.index r [47] + 1 := by
        rw [Lib.index_one, Lib.index_one, Lib.indexByte, if_neg (by simpa using hc)]
      have hge : -1 ≤ Lib.index r [47] := Lib.index_ge _ _
      cases hk : r.count 47 with
      | zero =>
        rw [hk] at ih
        simp only [Lib.splitK] at ih ⊢
        rw [List.cons.injEq] at ih
        rw [← ih.1, ← ih.2]
      | succ k =>
        rw [hk] at ih
        unfold Lib.splitK at ih ⊢
        rw [hidx]
        by_cases hm : Lib.index r [47] = -1
        · rw [hm] at ih ⊢
          simp at ih ⊢
          exact ⟨ih.1, ih.2⟩
        · obtain ⟨i, hi⟩ : ∃ i : Nat, Lib.index r [47] = i := ⟨(Lib.index r [47]).toNat, by omega⟩
          rw [hi] at ih ⊢
          have h1 : ((i : Int) == -1) = false := by rw [beq_eq_false_iff_ne]; omega
          have h2 : ((i : Int) + 1 == -1) = false := by rw [beq_eq_false_iff_ne]; omega
          have h3 : ((i : Int) + 1).toNat = i + 1 := by omega
          simp only [h1, h2, h3, Bool.false_eq_true, if_false, Int.toNat_natCast, Nat.add_zero] at ih ⊢
          rw [List.cons.injEq] at ih
          rw [List.take_succ_cons, ih.1, show i + 1 + ([47] : List UInt8).length = (i + ([47] : List UInt8).length) + 1 from by simp, List.drop_succ_cons, ih.2]

def toB (l : List UInt8) : ByteArray := ⟨l.toArray⟩
theorem toB_data (l : List UInt8) : (toB l).data.toList = l := by simp [toB]
theorem toB_of (s : ByteArray) : toB s.data.toList = s := by
  apply ByteArray.ext; simp [toB]
theorem toB_inj {a b : List UInt8} (h : toB a = toB b) : a = b := by rw [← toB_data a, h, toB_data]
/-- The components of a text: its pieces as strings. -/
def comps (l : List UInt8) : List ByteArray := (pieces l).map toB
theorem splitB_comps (s : ByteArray) : Lib.splitB ⟨#[47]⟩ 0 (Lib.countB s ⟨#[47]⟩) s = comps s.data.toList := by
  have h := Lib.splitB_data ⟨#[47]⟩ 0 (Lib.countB s ⟨#[47]⟩) s
  have e : Lib.countB s ⟨#[47]⟩ = s.data.toList.count 47 := Lib.count_one 47 _
  rw [e] at h ⊢
  rw [show ((⟨#[47]⟩ : ByteArray).data.toList) = [47] from rfl, splitK_pieces] at h
  unfold comps
  rw [← h, List.map_map]
  have : (toB ∘ fun x : ByteArray => x.data.toList) = id := by funext x; exact toB_of x
  rw [this, List.map_id]
theorem comps_len (s : ByteArray) : (comps s.data.toList).length = Lib.countB s ⟨#[47]⟩ + 1 := by
  rw [← splitB_comps]; exact Lib.splitB_all _ (by decide) 0 _ s rfl
theorem pieces_len_le : ∀ (l : List UInt8), (pieces l).length ≤ l.length + 1
  | [] => by simp [pieces]
  | c :: r => by
    have := pieces_len_le r
    by_cases hc : c = 47
    · subst hc; rw [pieces_slash]; simp; omega
    · obtain ⟨p, ps, hp⟩ := pieces_form r
      rw [pieces_other hc hp]; rw [hp] at this; simp at *; omega
theorem comps_len_le (l : List UInt8) : (comps l).length ≤ l.length + 1 := by
  unfold comps; rw [List.length_map]; exact pieces_len_le l
theorem pieces_size : ∀ (l : List UInt8), ∀ p ∈ pieces l, p.length ≤ l.length
  | [], p, hp => by simp [pieces] at hp; subst hp; simp
  | c :: r, p, hp => by
    have ih := pieces_size r
    by_cases hc : c = 47
    · subst hc
      rw [pieces_slash] at hp
      rcases List.mem_cons.1 hp with rfl | hp
      · simp
      · have := ih p hp; simp; omega
    · obtain ⟨q, qs, hq⟩ := pieces_form r
      rw [pieces_other hc hq] at hp
      rw [hq] at ih
      rcases List.mem_cons.1 hp with rfl | hp
      · have := ih q (by simp); simp; omega
      · have := ih p (by simp [hp]); simp; omega
theorem comps_size {l : List UInt8} {x : ByteArray} (h : x ∈ comps l) : x.size ≤ l.length := by
  unfold comps at h
  obtain ⟨p, hp, rfl⟩ := List.mem_map.1 h
  have := pieces_size l p hp
  have e : (toB p).size = p.length := by simp [toB, ByteArray.size]
  omega

/-- What a scan from the left holds: done pieces, the piece under way, and the rest come to the whole. -/
def glue (now : List UInt8) : List (List UInt8) → List (List UInt8)
  | [] => [now]
  | p :: ps => (now ++ p) :: ps
theorem glue_nil (s : List UInt8) : glue [] (pieces s) = pieces s := by
  obtain ⟨p, ps, h⟩ := pieces_form s
  rw [h]; rfl
theorem glue_end (now : List UInt8) : glue now (pieces []) = [now] := by simp [pieces, glue]
theorem glue_slash (now r : List UInt8) : glue now (pieces (47 :: r)) = now :: pieces r := by
  rw [pieces_slash]; simp [glue]
theorem glue_other {c : UInt8} (now r : List UInt8) (hc : c ≠ 47) : glue now (pieces (c :: r)) = glue (now ++ [c]) (pieces r) := by
  obtain ⟨p, ps, h⟩ := pieces_form r
  rw [pieces_other hc h, h]; simp [glue]

end Go.Proofs.YtmbbmmnpkdfecaaGreatDoor

/- The checker's equality at two slices that read as the same attributes, and as the same strings. Conditions: the slices' cells lie in memory as they read. -/

set_option linter.all false
namespace Go.Proofs.YtmbbmmnpkdfecaaGreatDoor
open Go.RowKit

set_option maxHeartbeats 800000 in
theorem attrsSame_any (v1 v2 : Value) (xs : List Attr) (w : World) (B1 B2 : Nat) (h1 : Ats w B1 v1 xs) (h2 : Ats w B2 v2 xs) :
    Calls Tryz.prog 52 #[v1, v2] w fun e w' => e = .returned (.bool true) ∧ ∃ q, w' = w.drewN q := by
  obtain ⟨a1, c1, rfl, _, hl, _, hx1⟩ := h1
  obtain ⟨a2, c2, rfl, _, _, _, hx2⟩ := h2
  have HX1 := Lib.hid hx1
  have HX2 := Lib.hid hx2
  clear hx1 hx2
  go_enter Tryz.func52, Tryz.ntmps52
  go_wp2
  go_loopg [5] xs.length (fun gg s5 wr => ∃ k q : Nat, k ≤ xs.length ∧ xs.length - k ≤ gg ∧ s5 = .int .i64 k ∧ wr = w.drewN q)
  case atStart => exact ⟨0, 0, by omega, by omega, rfl, rfl⟩
  case round =>
    obtain ⟨k, q, hk, hg, rfl, rfl⟩ := hrel
    by_cases hlt : k < xs.length
    · have hltz : (k : Int) < (xs.length : Int) := by omega
      have hi0 : (0 : Int) ≤ (k : Int) := Int.natCast_nonneg _
      obtain ⟨b1, o1, rfl, _, hj1⟩ := HX1.out (by omega)
      obtain ⟨b2, o2, rfl, _, hj2⟩ := HX2.out (by omega)
      obtain ⟨g0, g1⟩ := hj1 k hlt
      obtain ⟨d0, d1⟩ := hj2 k hlt
      clear hj1 hj2
      generalize xs.getD k A0 = y at *
      obtain ⟨u, a⟩ := y
      simp only at g0 g1 d0 d1
      go_wp2_with fail
      go_quiet (fail)
      go_wp2_with fail
      go_roundg (xs.length - (k + 1))
      case measure => omega
      case rel => exact ⟨k + 1, _, by omega, by omega, by go_num, rfl⟩
    · have hltz : ¬ (k : Int) < (xs.length : Int) := by omega
      go_wp2_with fail
      go_ret
      exact ⟨rfl, _, rfl⟩

theorem Strs.drewN {w : World} {B : Nat} {v : Value} {xs : List ByteArray} (h : Strs w B v xs) (q : Nat) : Strs (w.drewN q) B v xs := h
theorem Strs.up {w w' : World} {v : Value} {xs : List ByteArray} (h : Strs w w.heap.size v xs) (hb : Below w.heap.size w w') : Strs w' w'.heap.size v xs :=
  (h.below hb).more hb.size
theorem Strs.form {w : World} {B n : Nat} {v : Value} {xs : List ByteArray} (h : Strs w B v xs) (hn : xs.length = n) : ∃ a c, v = .slice a n c ∧ n ≤ c := by
  subst hn
  obtain ⟨a, c, hv, hc, _⟩ := h
  exact ⟨a, c, hv, hc⟩
theorem Strs.none_ (w : World) (B : Nat) : Strs w B (.slice none 0 0) [] :=
  ⟨none, 0, rfl, by simp, by simp, by simp, fun h => absurd h (by simp)⟩

set_option maxHeartbeats 800000 in
theorem strsSame_any (v1 v2 : Value) (xs : List ByteArray) (w : World) (B1 B2 : Nat) (h1 : Strs w B1 v1 xs) (h2 : Strs w B2 v2 xs) :
    Calls Tryz.prog 47 #[v1, v2] w fun e w' => e = .returned (.bool true) ∧ ∃ q, w' = w.drewN q := by
  obtain ⟨a1, c1, rfl, _, hl, _, hx1⟩ := h1
  obtain ⟨a2, c2, rfl, _, _, _, hx2⟩ := h2
  have HX1 := Lib.hid hx1
  have HX2 := Lib.hid hx2
  clear hx1 hx2
  go_enter Tryz.func47, Tryz.ntmps47
  go_wp2
  go_loopg [5] xs.length (fun gg s5 wr => ∃ k q : Nat, k ≤ xs.length ∧ xs.length - k ≤ gg ∧ s5 = .int .i64 k ∧ wr = w.drewN q)
  case atStart => exact ⟨0, 0, by omega, by omega, rfl, rfl⟩
  case round =>
    obtain ⟨k, q, hk, hg, rfl, rfl⟩ := hrel
    by_cases hlt : k < xs.length
    · have hltz : (k : Int) < (xs.length : Int) := by omega
      have hi0 : (0 : Int) ≤ (k : Int) := Int.natCast_nonneg _
      obtain ⟨b1, o1, rfl, _, hj1⟩ := HX1.out (by omega)
      obtain ⟨b2, o2, rfl, _, hj2⟩ := HX2.out (by omega)
      have g0 := hj1 k hlt
      have d0 := hj2 k hlt
      clear hj1 hj2
      generalize xs.getD k ByteArray.empty = y at *
      go_wp2_with fail
      go_quiet (fail)
      go_wp2_with fail
      go_roundg (xs.length - (k + 1))
      case measure => omega
      case rel => exact ⟨k + 1, _, by omega, by omega, by go_num, rfl⟩
    · have hltz : ¬ (k : Int) < (xs.length : Int) := by omega
      go_wp2_with fail
      go_ret
      exact ⟨rfl, _, rfl⟩

end Go.Proofs.YtmbbmmnpkdfecaaGreatDoor

/- What an argument of type []api.Attr or api.Attr reads as: a list of attributes, an attribute. No condition: every such slice, nil too. -/

set_option linter.all false
namespace Go.Proofs.YtmbbmmnpkdfecaaGreatDoor
open Go.ChangeShapes Go.WideShapes Go.ChangeAt Go.RowKit Go.Deep

theorem attr_under : Tryz.prog.underlying 28 = some (.struct (Tryz.prog.fieldsOf 28)) := by kernel_rfl
theorem attr_fields : (Tryz.prog.fieldsOf 28).map (fun f => (f.type, f.offset)) = #[(9, 0), (9, 1)] := by kernel_rfl
theorem str_cells : Tryz.prog.cellsOf 9 = 1 := by kernel_rfl
theorem attr_cells : Tryz.prog.cellsOf 28 = 2 := by kernel_rfl
theorem attr_bytes : Tryz.prog.bytesOf 28 = 32 := by kernel_rfl
theorem attr_field (j : Nat) (hj : j < 2) : ∃ f, (Tryz.prog.fieldsOf 28)[j]? = some f ∧ f.type = 9 ∧ f.offset = j := by
  have hsz : (Tryz.prog.fieldsOf 28).size = 2 := by
    have := congrArg Array.size attr_fields
    simpa using this
  have h1 : (Tryz.prog.fieldsOf 28)[j]? = some ((Tryz.prog.fieldsOf 28)[j]'(by omega)) := Array.getElem?_eq_getElem (by omega)
  refine ⟨_, h1, ?_⟩
  have h2 := congrArg (fun z => z[j]?) attr_fields
  have h3 : ∀ j, j < 2 → (#[(9, 0), (9, 1)] : Array (TypeId × Nat))[j]? = some (9, j) := by
    intro j hj
    match j, hj with
    | 0, _ => rfl
    | 1, _ => rfl
  simp only [Array.getElem?_map, h1, Option.map_some] at h2
  rw [h3 j hj] at h2
  injection h2 with h2
  injection h2 with h4 h5
  exact ⟨h4, h5⟩


theorem two_of {cs : List Value} (h : cs.length = 2) : ∃ c0 c1, cs = [c0, c1] := by
  match cs, h with
  | [c0, c1], _ => exact ⟨c0, c1, rfl⟩
/-- Two cells that read as an attribute are two strings of a length that the model holds. -/
theorem attr_of {H : Type} {enc : TypeId × Value → H} {w : World} {base : Nat} {spare : Nat → Bool} {held : Bool} {n : Nat} {cs : List Value} {y : DataW H × List MemPlace}
    (h : DataW.trod enc Tryz.prog w base spare held n 28 cs = some y) : ∃ x z, cs = [.string x, .string z] ∧ x.size ≤ maxLen ∧ z.size ≤ maxLen := by
  obtain ⟨xs, n', _, _, hlen, hxl, hf⟩ := DataW.trod_struct attr_under h
  rw [attr_cells] at hlen
  have one : ∀ j, j < 2 → ∃ q : ByteArray, (cs.drop j).take 1 = [.string q] ∧ q.size ≤ maxLen := by
    intro j hj
    obtain ⟨f, h1, h2, h3⟩ := attr_field j hj
    have h4 := hf j f h1
    rw [h2, h3, str_cells] at h4
    have hjx : j < xs.length := by
      rw [hxl]
      exact (Array.getElem?_eq_some_iff.1 h1).1
    rw [List.getElem?_eq_getElem hjx] at h4
    obtain ⟨q, h5, _, h6⟩ := DataW.trod_string Tryz.underlying9 h4
    exact ⟨q, h5, h6⟩
  obtain ⟨c0, c1, rfl⟩ := two_of hlen
  obtain ⟨x, hx, fx⟩ := one 0 (by omega)
  obtain ⟨z, hz, fz⟩ := one 1 (by omega)
  simp at hx hz
  exact ⟨x, z, by rw [hx, hz], fx, fz⟩
def strOf : Value → ByteArray
  | .string s => s
  | _ => ByteArray.empty

set_option maxRecDepth 100000 in
theorem ats_of {H : Type} {enc : TypeId × Value → H} {W : World} {fuel : Nat} {a : Option Addr} {len cap : Nat} {x : DataW H × List MemPlace}
    (hf : DataW.trod enc Tryz.prog W 0 (fun _ => true) true fuel 61 [.slice a len cap] = some x)
    (hreach : ∀ elems spare, x.1 = .slice elems spare → (elems.length + spare.length) * 32 ≤ 140737488351232) : ∃ xs, Ats W W.heap.size (.slice a len cap) xs ∧ xs.length ≤ 4398046510976 := by
  rcases open_slice Tryz.underlying61 hf with ⟨hcs, hx⟩ | ⟨ad, len', cap', m, n, D, Pl, hcs, _, hl, hm, hmm, hx, hi⟩
  · simp at hcs
    obtain ⟨rfl, rfl, rfl⟩ := hcs
    exact ⟨[], Ats.none_ _ _, by simp⟩
  · simp at hcs
    obtain ⟨rfl, rfl, rfl⟩ := hcs
    simp only [if_true] at hmm
    have hr := hreach _ _ (by rw [hx])
    simp only [List.length_map, List.length_range] at hr
    have key : ∀ i, i < len → ∀ j, j < 2 → ∃ n : ByteArray, W.cell? (ad.add (i * 2 + j)) = some (.string n) ∧ n.size ≤ maxLen := by
      intro i hil j hj
      obtain ⟨cs, hc, ht⟩ := hi i (by omega)
      rw [attr_cells] at hc
      obtain ⟨u, v, rfl, fu, fv⟩ := attr_of ht
      obtain ⟨_, _, hat⟩ := World.cells?_some hc
      have h1 := hat j hj
      rw [Go.Deep.add_add] at h1
      match j, hj with
      | 0, _ => exact ⟨u, h1, fu⟩
      | 1, _ => exact ⟨v, h1, fv⟩
    refine ⟨(List.range len).map (fun i => ⟨strOf ((W.cell? (ad.add (i * 2 + 0))).getD undef), strOf ((W.cell? (ad.add (i * 2 + 1))).getD undef)⟩), ⟨some ad, cap, by simp, by simp; omega, by simp; omega, ?_, ?_⟩, by simp; omega⟩
    · intro e he
      obtain ⟨i, hil, rfl⟩ := List.mem_map.1 he
      have hil := List.mem_range.1 hil
      obtain ⟨n0, h0, f0⟩ := key i hil 0 (by omega)
      obtain ⟨n1, h1, f1⟩ := key i hil 1 (by omega)
      rw [h0, h1]
      exact ⟨f0, f1⟩
    · intro hp0
      have hp : 0 < len := by simpa using hp0
      clear hp0
      obtain ⟨b, off, spot⟩ := ad
      obtain ⟨n0, hc0, _⟩ := key 0 hp 0 (by omega)
      have hspot : spot = none := by simpa [Addr.add] using World.cell?_spot hc0
      subst hspot
      have hlt : b < W.heap.size := by have := cell_lt hc0; simpa [Addr.add] using this
      refine ⟨b, off, rfl, hlt, fun j hj => ?_⟩
      have hj : j < len := by simpa using hj
      have hg : ∀ g : Nat → Attr, ((List.range len).map g).getD j A0 = g j := fun g => by
        rw [List.getD_eq_getElem?_getD, List.getElem?_eq_getElem (by simpa using hj)]; simp
      rw [hg]
      obtain ⟨n0, h0, _⟩ := key j hj 0 (by omega)
      obtain ⟨n1, h1, _⟩ := key j hj 1 (by omega)
      rw [h0, h1]
      rw [add_plain] at h0 h1
      exact ⟨h0, h1⟩

end Go.Proofs.YtmbbmmnpkdfecaaGreatDoor

/- checkAttr, xattr.Validate and the reference's ValidateAttrs at every list: too many, or the first bad attribute's code and place. Conditions: the slice's cells lie in memory as they read. -/

set_option linter.all false
namespace Go.Proofs.YtmbbmmnpkdfecaaGreatDoor
open Go.RowKit

theorem strs_one (w : World) (n : Nat) (hn : n = w.heap.size) (x : ByteArray) (hx : x.size ≤ maxLen) (t : TypeId) : Strs (w.alloc (.cells #[.string x] t)) (w.heap.size + 1) (.slice (some ⟨n, 0, none⟩) 1 1) [x] := by
  subst hn
  refine ⟨_, _, rfl, by simp, by simp, by simpa using hx, fun _ => ⟨_, _, rfl, by simp, ?_⟩⟩
  intro j hj
  match j, hj with
  | 0, _ => simp
theorem joinF_one (x : ByteArray) : (joinF [x]).1 = if vname x = true then 0 else 12 := by
  cases h : vname x with
  | true =>
    have h1 : firstBad [x] = 1 := firstBad_miss (by intro j hj; match j, hj with | 0, _ => simpa using h)
    have h2 : compFault [x] = (0, 0) := by unfold compFault; rw [h1]; simp
    have h3 : (pstr [x]).length ≤ 100 := by
      unfold pstr
      rw [if_neg (by simp)]
      have := (vname_size h).2
      simp; omega
    unfold joinF
    rw [h2, if_pos rfl, if_neg (by omega)]
    rfl
  | false =>
    have h1 : firstBad [x] = 0 := firstBad_hit (k := 0) (by simp) (by simpa using h) (fun j hj => absurd hj (by omega))
    have h2 : compFault [x] = (12, 0) := by unfold compFault; rw [h1]; simp
    unfold joinF
    rw [h2]
    simp
theorem codeA_form (x y : ByteArray) : codeA ⟨x, y⟩ = if (joinF [x]).1 = 0 then (if 20 < y.size then 10 else 0) else 12 := by
  rw [joinF_one]
  unfold codeA
  cases vname x <;> simp

set_option maxHeartbeats 400000 in
theorem checkAttr_any (x y : ByteArray) (w : World) (hx : x.size ≤ maxLen) (hy : y.size ≤ maxLen) :
    Calls Tryz.prog 150 #[.agg #[.string x, .string y]] w fun e w' => e = .returned (.int .i64 (codeA ⟨x, y⟩)) ∧ Below w.heap.size w w' := by
  have HC := Lib.hid (fun (W : World) (v : Value) (h : Strs W W.heap.size v [x]) => pathJoin_any v [x] W h)
  have HF := Lib.hid (codeA_form x y)
  have HS := Lib.hid (fun (W : World) (n : Nat) (hn : n = W.heap.size) (t : TypeId) => (strs_one W n hn x hx t).more (B' := W.heap.size + 1) (Nat.le_refl _))
  unfold joinV faultV at HC
  generalize codeA ⟨x, y⟩ = q at *
  generalize joinS [x] = S at *
  generalize (joinF [x]).2 = i at *
  unfold maxLen at hy
  by_cases hc : (joinF [x]).1 = 0
  · rw [hc] at HC HF
    rw [if_pos rfl] at HF
    clear hc
    go_enter Tryz.func150, Tryz.ntmps150
    go_wp2_with fail
    refine (HC.out _ _ (by simpa using HS.out (w.alloc (.cells #[.string x, .string y] 28)) _ (by simp) 9)).mono ?_
    rintro e w' ⟨rfl, hb'⟩
    have bw : Below w.heap.size w w' := (((Below.refl _ _).alloc (Nat.le_refl _) _).alloc (by simp) _).trans (hb'.mono (by first | omega | (simp; done) | (simp; omega)))
    have bws := bw.size
    obtain ⟨gl, g0, g1⟩ := ((AB.new w x y 28).alloc (.cells #[.string x] 9)).below hb' (by first | omega | (simp; done) | (simp; omega))
    clear hb' g0
    by_cases h20 : 20 < y.size
    · rw [if_pos h20] at HF
      go_wp2
      go_ret
      refine ⟨ret_int HF.out.symm, ?_⟩
      repeat (first | exact bw | refine Below.setCell ?_ (by first | omega | (simp; done) | (simp; omega)) _ | refine Below.alloc ?_ (by first | omega | (simp; done) | (simp; omega)) _ | refine Below.drew ?_)
    · rw [if_neg h20] at HF
      go_wp2
      go_ret
      refine ⟨ret_int HF.out.symm, ?_⟩
      repeat (first | exact bw | refine Below.setCell ?_ (by first | omega | (simp; done) | (simp; omega)) _ | refine Below.alloc ?_ (by first | omega | (simp; done) | (simp; omega)) _ | refine Below.drew ?_)
  · rw [if_neg hc] at HF
    generalize (joinF [x]).1 = c at *
    have hc1 : (c != 0) = true := by simpa using hc
    have hc2 : (c == 0) = false := by simpa using hc
    clear hc
    go_enter Tryz.func150, Tryz.ntmps150
    go_wp2_with fail
    refine (HC.out _ _ (by simpa using HS.out (w.alloc (.cells #[.string x, .string y] 28)) _ (by simp) 9)).mono ?_
    rintro e w' ⟨rfl, hb'⟩
    have bw : Below w.heap.size w w' := (((Below.refl _ _).alloc (Nat.le_refl _) _).alloc (by simp) _).trans (hb'.mono (by first | omega | (simp; done) | (simp; omega)))
    have bws := bw.size
    clear hb'
    go_wp2
    go_ret
    refine ⟨ret_int HF.out.symm, ?_⟩
    repeat (first | exact bw | refine Below.setCell ?_ (by first | omega | (simp; done) | (simp; omega)) _ | refine Below.alloc ?_ (by first | omega | (simp; done) | (simp; omega)) _ | refine Below.drew ?_)

def valAV (xs : List Attr) : Value := faultV (valA xs).1 (valA xs).2
theorem valAV_hit {xs : List Attr} (h : ¬ 6 < xs.length) {k : Nat} {c : Int} (hk : k < xs.length) (hc : codeL xs k = c) (hn : ¬ c = 0) (hA : ∀ j, j < k → codeL xs j = 0) : valAV xs = faultV c k := by
  unfold valAV; rw [valA_hit h hk (by rw [hc]; exact hn) hA, hc]
theorem valAV_miss {xs : List Attr} (h : ¬ 6 < xs.length) (hA : ∀ j, j < xs.length → codeL xs j = 0) : valAV xs = faultV 0 0 := by
  unfold valAV; rw [valA_miss h hA]
theorem codeL_of {xs : List Attr} {k : Nat} {x y p : ByteArray} (hy : xs.getD k A0 = ⟨x, y⟩) (hp : prevN xs k = p) :
    codeL xs k = if codeA ⟨x, y⟩ = 0 then (if y = ByteArray.empty ∨ ltS p x = false then 5 else 0) else codeA ⟨x, y⟩ := by
  unfold codeL; rw [hy, hp]
theorem prevN_succ {xs : List Attr} {k : Nat} {x y : ByteArray} (hy : xs.getD k A0 = ⟨x, y⟩) : prevN xs (k + 1) = x := by
  unfold prevN; rw [if_neg (by omega), Nat.add_sub_cancel, hy]
theorem leqS (x p : ByteArray) : (Op.bytesLess x.toList p.toList || x.toList == p.toList) = !ltS p x := by
  have e : Op.bytesLess x.toList p.toList = ltS x p := rfl
  rw [e, beq_str]
  cases h : ltS p x with
  | true => rw [ltS_asymm h, decide_eq_false (fun e => by subst e; rw [ltS_irrefl] at h; cases h)]; rfl
  | false =>
    cases h2 : ltS x p with
    | true => rfl
    | false => rw [decide_eq_true (ltS_eq h2 h)]; rfl

set_option maxHeartbeats 1000000 in
theorem xvalidate_any (v : Value) (xs : List Attr) (w : World) (h : Ats w w.heap.size v xs) :
    Calls Tryz.prog 105 #[v] w fun e w' => e = .returned (valAV xs) ∧ Below w.heap.size w w' := by
  obtain ⟨a, c, rfl, hc, hl, hf, hx⟩ := h
  by_cases h6 : 6 < xs.length
  · have hm := Lib.hid (show valAV xs = faultV 2 0 by unfold valAV; rw [valA_many h6])
    clear hx hf
    go_enter Tryz.func105, Tryz.ntmps105
    go_wp2
    exact bodyPost_ret (v := faultV 2 0) (by simp [results, Tryz.results105, faultV, go_sem]) rfl ⟨by rw [hm.out], (Below.refl _ _).alloc (Nat.le_refl _) _⟩
  · have H6 := Lib.hid h6
    have h62 : xs.length ≤ 6 := by omega
    have h6b : decide ((6 : Int) < (xs.length : Int)) = false := by simp; omega
    have HX := Lib.hid hx
    have HFT := Lib.hid hf
    clear hf h6 hx
    go_enter Tryz.func105, Tryz.ntmps105
    go_wp2
    go_loopg [3, 4, 5, 6, 13] xs.length (fun gg s3 _ _ _ s13 wr => ∃ (kk : Nat) (p : ByteArray), kk ≤ xs.length ∧ xs.length - kk ≤ gg ∧ s13 = .int .i64 kk ∧ s3 = .string p ∧ Aside (prevN xs kk = p) ∧ Aside (Below w.heap.size w wr) ∧ Aside (FBox wr w.heap.size 0 0) ∧ Aside (∀ j, j < kk → codeL xs j = 0))
    case atStart => exact ⟨0, ByteArray.empty, Nat.zero_le _, by omega, rfl, rfl, (show prevN xs 0 = _ from rfl), (Below.refl _ _).alloc (Nat.le_refl _) _, FBox.new w 0 0 _, fun j hj => absurd hj (Nat.not_lt_zero _)⟩
    case round =>
      obtain ⟨kk, p, hkk, hg, rfl, rfl, PV, BW, FB, A⟩ := hrel
      by_cases hlt : kk < xs.length
      · have hltz : (kk : Int) < (xs.length : Int) := by omega
        obtain ⟨b, o, rfl, hb, hj⟩ := HX.out (by omega)
        have g0 : wr.cell? ⟨b, o + kk * 2, none⟩ = some (.string (xs.getD kk A0).n) := (BW.out.cell (p := ⟨b, _, none⟩) hb).trans (hj kk hlt).1
        have g1 : wr.cell? ⟨b, o + kk * 2 + 1, none⟩ = some (.string (xs.getD kk A0).v) := (BW.out.cell (p := ⟨b, _, none⟩) hb).trans (hj kk hlt).2
        have hfit := HFT.out _ (atD_mem hlt)
        clear hj
        generalize hy : xs.getD kk A0 = y at g0 g1 hfit
        obtain ⟨x, z⟩ := y
        have Y := Lib.hid hy
        have CL := Lib.hid (codeL_of hy PV.out)
        have PN := Lib.hid (prevN_succ hy)
        clear hy
        have hcall := Lib.hid (fun W => checkAttr_any x z W hfit.1 hfit.2)
        clear hfit
        generalize codeA ⟨x, z⟩ = q at hcall CL
        have hs0 := BW.out.size
        have hl0 := FB.out.lt
        by_cases hq0 : q = 0
        · subst hq0
          rw [if_pos rfl] at CL
          by_cases hz : z = ByteArray.empty
          · rw [if_pos (Or.inl hz)] at CL
            have hz1 : z.toList.isEmpty = true := by rw [isEmpty_str]; simpa using hz
            clear hz
            go_wp2_with fail
            refine (hcall.out _).mono ?_
            rintro e w' ⟨rfl, hb'⟩
            have bw : Below wr.heap.size wr w' := ((Below.refl _ _).alloc (Nat.le_refl _) _).trans (hb'.mono (by first | omega | (simp; done) | (simp; omega)))
            have hB1 : Below w.heap.size w w' := BW.out.trans (bw.mono BW.out.size)
            have FB1 := FB.out.below bw FB.out.lt
            obtain ⟨gl, k0, k1⟩ := (AB.new wr x z 28).below hb' (by first | omega | (simp; done) | (simp; omega))
            have bs1 := bw.size
            clear hb' bw
            obtain ⟨l1, a0, a1, f0, f1⟩ := FB1
            go_wp2
            exact bodyPost_ret (v := faultV 5 kk) (by simp [results, Tryz.results105, faultV, go_sem, a0, a1]) rfl ⟨by rw [valAV_hit H6.out hlt CL.out (by omega) A.out], (hB1.setCell (by first | omega | (simp; done) | (simp; omega)) _).setCell (by first | omega | (simp; done) | (simp; omega)) _⟩
          · have hz1 : z.toList.isEmpty = false := by rw [isEmpty_str]; simpa using hz
            cases hlq : ltS p x with
            | false =>
              rw [if_pos (Or.inr hlq)] at CL
              have hle : (Op.bytesLess x.toList p.toList || x.toList == p.toList) = true := by rw [leqS, hlq]; rfl
              clear hz hlq
              go_wp2_with fail
              refine (hcall.out _).mono ?_
              rintro e w' ⟨rfl, hb'⟩
              have bw : Below wr.heap.size wr w' := ((Below.refl _ _).alloc (Nat.le_refl _) _).trans (hb'.mono (by first | omega | (simp; done) | (simp; omega)))
              have hB1 : Below w.heap.size w w' := BW.out.trans (bw.mono BW.out.size)
              have FB1 := FB.out.below bw FB.out.lt
              obtain ⟨gl, k0, k1⟩ := (AB.new wr x z 28).below hb' (by first | omega | (simp; done) | (simp; omega))
              have bs1 := bw.size
              clear hb' bw
              obtain ⟨l1, a0, a1, f0, f1⟩ := FB1
              go_wp2
              exact bodyPost_ret (v := faultV 5 kk) (by simp [results, Tryz.results105, faultV, go_sem, a0, a1]) rfl ⟨by rw [valAV_hit H6.out hlt CL.out (by omega) A.out], (hB1.setCell (by first | omega | (simp; done) | (simp; omega)) _).setCell (by first | omega | (simp; done) | (simp; omega)) _⟩
            | true =>
              rw [if_neg (by rintro (h | h); exact hz h; rw [hlq] at h; cases h)] at CL
              have hle : (Op.bytesLess x.toList p.toList || x.toList == p.toList) = false := by rw [leqS, hlq]; rfl
              clear hz hlq
              go_wp2_with fail
              refine (hcall.out _).mono ?_
              rintro e w' ⟨rfl, hb'⟩
              have bw : Below wr.heap.size wr w' := ((Below.refl _ _).alloc (Nat.le_refl _) _).trans (hb'.mono (by first | omega | (simp; done) | (simp; omega)))
              have hB1 : Below w.heap.size w w' := BW.out.trans (bw.mono BW.out.size)
              have FB1 := FB.out.below bw FB.out.lt
              obtain ⟨gl, k0, k1⟩ := (AB.new wr x z 28).below hb' (by first | omega | (simp; done) | (simp; omega))
              have bs1 := bw.size
              clear hb' bw
              have FF := Lib.hid FB1
              clear FB1
              go_wp2
              go_roundg (xs.length - (kk + 1))
              case measure => omega
              case rel =>
                refine ⟨kk + 1, x, by omega, by omega, by go_num, rfl, PN.out, hB1, FF.out, (show Aside _ from fun j hj => ?_)⟩
                by_cases e : j = kk
                · subst e; exact CL.out
                · exact A.out j (by omega)
        · rw [if_neg hq0] at CL
          have hq1 : (q == 0) = false := by simpa using hq0
          have hq2 : (q != 0) = true := by simpa using hq0
          have HQ := Lib.hid hq0
          clear hq0
          go_wp2_with fail
          refine (hcall.out _).mono ?_
          rintro e w' ⟨rfl, hb'⟩
          have bw : Below wr.heap.size wr w' := ((Below.refl _ _).alloc (Nat.le_refl _) _).trans (hb'.mono (by first | omega | (simp; done) | (simp; omega)))
          have hB1 : Below w.heap.size w w' := BW.out.trans (bw.mono BW.out.size)
          have FB1 := FB.out.below bw FB.out.lt
          obtain ⟨gl, k0, k1⟩ := (AB.new wr x z 28).below hb' (by first | omega | (simp; done) | (simp; omega))
          have bs1 := bw.size
          clear hb' bw
          obtain ⟨l1, a0, a1, f0, f1⟩ := FB1
          go_wp2
          exact bodyPost_ret (v := faultV q kk) (by simp [results, Tryz.results105, faultV, go_sem, a0, a1]) rfl ⟨by rw [valAV_hit H6.out hlt CL.out HQ.out A.out], (hB1.setCell (by first | omega | (simp; done) | (simp; omega)) _).setCell (by first | omega | (simp; done) | (simp; omega)) _⟩
      · have hltz : ¬ (kk : Int) < (xs.length : Int) := by omega
        have e : kk = xs.length := by omega
        have E : Aside (kk = xs.length) := e
        clear e
        obtain ⟨l1, a0, a1, k0, k1⟩ := FB.out
        have hs0 := BW.out.size
        go_wp2
        exact bodyPost_ret (v := faultV 0 0) (by simp [results, Tryz.results105, faultV, go_sem, a0, a1]) rfl ⟨by rw [valAV_miss H6.out fun j hj => A.out j (by have := E.out; omega)], (BW.out.setCell (by first | omega | (simp; done) | (simp; omega)) _).setCell (by first | omega | (simp; done) | (simp; omega)) _⟩

set_option maxHeartbeats 1000000 in
theorem refValidate_any (v : Value) (xs : List Attr) (w : World) (h : Ats w w.heap.size v xs) :
    Calls Tryz.prog 135 #[v] w fun e w' => e = .returned (valAV xs) ∧ Below w.heap.size w w' := by
  obtain ⟨a, c, rfl, hc, hl, hf, hx⟩ := h
  by_cases h6 : 6 < xs.length
  · have hm := Lib.hid (show valAV xs = faultV 2 0 by unfold valAV; rw [valA_many h6])
    clear hx hf
    go_enter Tryz.func135, Tryz.ntmps135
    go_wp2_with fail
    refine (newFault_any _ _ _).mono ?_
    rintro e w' ⟨rfl, hb'⟩
    have B1 : Below w.heap.size w w' := ((Below.refl _ _).alloc (Nat.le_refl _) _).trans (hb'.mono (by first | omega | (simp; done) | (simp; omega)))
    obtain ⟨l1, a0, a1, f0, f1⟩ := (FBox.new w 0 0 37).below hb' (by first | omega | (simp; done) | (simp; omega))
    go_wp2
    exact bodyPost_ret (v := faultV 2 0) (by simp [results, Tryz.results135, faultV, go_sem, a0, a1]) rfl ⟨by rw [hm.out], (B1.setCell (by first | omega | (simp; done) | (simp; omega)) _).setCell (by first | omega | (simp; done) | (simp; omega)) _⟩
  · have H6 := Lib.hid h6
    have h62 : xs.length ≤ 6 := by omega
    have h6b : decide ((6 : Int) < (xs.length : Int)) = false := by simp; omega
    have HX := Lib.hid hx
    have HFT := Lib.hid hf
    clear hf h6 hx
    go_enter Tryz.func135, Tryz.ntmps135
    go_wp2
    go_loopg [3, 4] xs.length (fun gg s3 _ wr => ∃ (kk : Nat), kk ≤ xs.length ∧ xs.length - kk ≤ gg ∧ s3 = .int .i64 kk ∧ Aside (Below w.heap.size w wr) ∧ Aside (FBox wr w.heap.size 0 0) ∧ Aside (∀ j, j < kk → codeL xs j = 0))
    case atStart => exact ⟨0, Nat.zero_le _, by omega, rfl, (Below.refl _ _).alloc (Nat.le_refl _) _, FBox.new w 0 0 _, fun j hj => absurd hj (Nat.not_lt_zero _)⟩
    case round =>
      obtain ⟨kk, hkk, hg, rfl, BW, FB, A⟩ := hrel
      by_cases hlt : kk < xs.length
      · have hltz : (kk : Int) < (xs.length : Int) := by omega
        have hk0 : (0 : Int) ≤ (kk : Int) := Int.natCast_nonneg _
        obtain ⟨b, o, rfl, hb, hj⟩ := HX.out (by omega)
        have g0 : wr.cell? ⟨b, o + kk * 2, none⟩ = some (.string (xs.getD kk A0).n) := (BW.out.cell (p := ⟨b, _, none⟩) hb).trans (hj kk hlt).1
        have g1 : wr.cell? ⟨b, o + kk * 2 + 1, none⟩ = some (.string (xs.getD kk A0).v) := (BW.out.cell (p := ⟨b, _, none⟩) hb).trans (hj kk hlt).2
        have hfit := HFT.out _ (atD_mem hlt)
        have HP := Lib.hid (show 0 < kk → prevN xs kk = (xs.getD (kk - 1) A0).n ∧ wr.cell? ⟨b, o + (kk - 1) * 2, none⟩ = some (.string (xs.getD (kk - 1) A0).n) from fun h0 => ⟨by unfold prevN; rw [if_neg (by omega)], (BW.out.cell (p := ⟨b, _, none⟩) hb).trans (hj (kk - 1) (by omega)).1⟩)
        clear hj
        generalize hy : xs.getD kk A0 = y at g0 g1 hfit
        obtain ⟨x, z⟩ := y
        have Y := Lib.hid hy
        have CL := Lib.hid (codeL_of hy (p := prevN xs kk) rfl)
        clear hy
        have hcall := Lib.hid (fun W => attrCode_any x z W hfit.1 hfit.2)
        have HVN := Lib.hid (show codeA ⟨x, z⟩ = 0 → x ≠ ByteArray.empty from fun h e => by have := (vname_size (codeA_ok h).1).1; simp only at this; rw [e] at this; simp at this)
        clear hfit
        generalize codeA ⟨x, z⟩ = q at hcall CL HVN
        have hs0 := BW.out.size
        have hl0 := FB.out.lt
        by_cases hq0 : q = 0
        · subst hq0
          have hxne := HVN.out rfl
          rw [if_pos rfl] at CL
          by_cases hz : z = ByteArray.empty
          · rw [if_pos (Or.inl hz)] at CL
            have hz1 : z.toList.isEmpty = true := by rw [isEmpty_str]; simpa using hz
            clear hz hxne HVN HP
            go_wp2_with fail
            refine (hcall.out _).mono ?_
            rintro e w' ⟨rfl, hb'⟩
            have hB1 : Below w.heap.size w w' := BW.out.trans (hb'.mono BW.out.size)
            have FB1 := Lib.hid (FB.out.below hb' FB.out.lt)
            have k0 := (hb'.cell (p := ⟨b, o + kk * 2, none⟩) (Nat.lt_of_lt_of_le hb hs0)).trans g0
            have k1 := (hb'.cell (p := ⟨b, o + kk * 2 + 1, none⟩) (Nat.lt_of_lt_of_le hb hs0)).trans g1
            have bs1 := hb'.size
            have FBX := FB1
            clear hb' g0 g1
            go_wp2_with fail
            go_quiet (fail)
            go_wp2_with fail
            refine (newFault_any _ _ _).mono ?_
            rintro e w2 ⟨rfl, hb2⟩
            obtain ⟨l1, a0, a1, f0, f1⟩ := (FB1.out.drewN nq).below hb2 FB1.out.lt
            have B2 : Below w.heap.size w w2 := (below_drewN hB1 nq).trans (hb2.mono (Nat.le_trans hs0 bs1))
            have bs2 := B2.size
            go_wp2
            exact bodyPost_ret (v := faultV 5 kk) (by simp [results, Tryz.results135, faultV, go_sem, a0, a1]) rfl ⟨by rw [valAV_hit H6.out hlt CL.out (by omega) A.out], (B2.setCell (by first | omega | (simp; done) | (simp; omega)) _).setCell (by first | omega | (simp; done) | (simp; omega)) _⟩
          · have hz1 : z.toList.isEmpty = false := by rw [isEmpty_str]; simpa using hz
            cases kk with
            | zero =>
              rw [if_neg (by rintro (h | h); exact hz h; unfold prevN at h; rw [if_pos rfl, ltS_empty] at h; simp at h; exact hxne h)] at CL
              clear hz hxne HVN HP
              have g0 : wr.cell? ⟨b, o, none⟩ = some (.string x) := by simpa using g0
              have g1 : wr.cell? ⟨b, o + 1, none⟩ = some (.string z) := by simpa using g1
              go_wp2_with fail
              refine (hcall.out _).mono ?_
              rintro e w' ⟨rfl, hb'⟩
              have hB1 : Below w.heap.size w w' := BW.out.trans (hb'.mono BW.out.size)
              have FB1 := Lib.hid (FB.out.below hb' FB.out.lt)
              have k0 := (hb'.cell (p := ⟨b, o, none⟩) (Nat.lt_of_lt_of_le hb hs0)).trans g0
              have k1 := (hb'.cell (p := ⟨b, o + 1, none⟩) (Nat.lt_of_lt_of_le hb hs0)).trans g1
              have bs1 := hb'.size
              clear hb' g0 g1
              go_wp2_with fail
              go_quiet (fail)
              go_wp2_with fail
              go_roundg (xs.length - (0 + 1))
              case measure => omega
              case rel =>
                refine ⟨0 + 1, by omega, by omega, by go_num, below_drewN hB1 nq, FB1.out.drewN nq, (show Aside _ from fun j hj => ?_)⟩
                by_cases e : j = 0
                · subst e; exact CL.out
                · exact A.out j (by omega)
            | succ m =>
              obtain ⟨hp1, hp2⟩ := HP.out (by omega)
              rw [Nat.add_sub_cancel] at hp1 hp2
              rw [hp1] at CL
              generalize (xs.getD m A0).n = p at CL hp2
              clear HP hp1 hxne HVN
              cases hlq : ltS p x with
              | false =>
                rw [if_pos (Or.inr hlq)] at CL
                have hle : (Op.bytesLess x.toList p.toList || x.toList == p.toList) = true := by rw [leqS, hlq]; rfl
                clear hz hlq
                go_wp2_with fail
                refine (hcall.out _).mono ?_
                rintro e w' ⟨rfl, hb'⟩
                have hB1 : Below w.heap.size w w' := BW.out.trans (hb'.mono BW.out.size)
                have FB1 := Lib.hid (FB.out.below hb' FB.out.lt)
                have k0 := (hb'.cell (p := ⟨b, o + (m + 1) * 2, none⟩) (Nat.lt_of_lt_of_le hb hs0)).trans g0
                have k1 := (hb'.cell (p := ⟨b, o + (m + 1) * 2 + 1, none⟩) (Nat.lt_of_lt_of_le hb hs0)).trans g1
                have bs1 := hb'.size
                have k2 := (hb'.cell (p := ⟨b, o + m * 2, none⟩) (Nat.lt_of_lt_of_le hb hs0)).trans hp2
                clear hb' g0 g1 hp2
                go_wp2_with fail
                go_quiet (fail)
                go_wp2_with fail
                refine (newFault_any _ _ _).mono ?_
                rintro e w2 ⟨rfl, hb2⟩
                obtain ⟨l1, a0, a1, f0, f1⟩ := (FB1.out.drewN nq).below hb2 FB1.out.lt
                have B2 : Below w.heap.size w w2 := (below_drewN hB1 nq).trans (hb2.mono (Nat.le_trans hs0 bs1))
                have bs2 := B2.size
                go_wp2
                exact bodyPost_ret (v := faultV 5 (m + 1 : Nat)) (by simp [results, Tryz.results135, faultV, go_sem, a0, a1]) rfl ⟨by rw [valAV_hit H6.out hlt CL.out (by omega) A.out], (B2.setCell (by first | omega | (simp; done) | (simp; omega)) _).setCell (by first | omega | (simp; done) | (simp; omega)) _⟩
              | true =>
                rw [if_neg (by rintro (h | h); exact hz h; rw [hlq] at h; cases h)] at CL
                have hle : (Op.bytesLess x.toList p.toList || x.toList == p.toList) = false := by rw [leqS, hlq]; rfl
                clear hz hlq
                go_wp2_with fail
                refine (hcall.out _).mono ?_
                rintro e w' ⟨rfl, hb'⟩
                have hB1 : Below w.heap.size w w' := BW.out.trans (hb'.mono BW.out.size)
                have FB1 := Lib.hid (FB.out.below hb' FB.out.lt)
                have k0 := (hb'.cell (p := ⟨b, o + (m + 1) * 2, none⟩) (Nat.lt_of_lt_of_le hb hs0)).trans g0
                have k1 := (hb'.cell (p := ⟨b, o + (m + 1) * 2 + 1, none⟩) (Nat.lt_of_lt_of_le hb hs0)).trans g1
                have bs1 := hb'.size
                have k2 := (hb'.cell (p := ⟨b, o + m * 2, none⟩) (Nat.lt_of_lt_of_le hb hs0)).trans hp2
                clear hb' g0 g1 hp2
                go_wp2_with fail
                go_quiet (fail)
                go_wp2_with fail
                go_roundg (xs.length - ((m + 1) + 1))
                case measure => omega
                case rel =>
                  refine ⟨(m + 1) + 1, by omega, by omega, by go_num, below_drewN hB1 nq, FB1.out.drewN nq, (show Aside _ from fun j hj => ?_)⟩
                  by_cases e : j = (m + 1)
                  · subst e; exact CL.out
                  · exact A.out j (by omega)
        · rw [if_neg hq0] at CL
          have hq1 : (q == 0) = false := by simpa using hq0
          have hq2 : (q != 0) = true := by simpa using hq0
          have HQ := Lib.hid hq0
          clear hq0 HVN HP
          go_wp2_with fail
          refine (hcall.out _).mono ?_
          rintro e w' ⟨rfl, hb'⟩
          have hB1 : Below w.heap.size w w' := BW.out.trans (hb'.mono BW.out.size)
          have FB1 := Lib.hid (FB.out.below hb' FB.out.lt)
          have k0 := (hb'.cell (p := ⟨b, o + kk * 2, none⟩) (Nat.lt_of_lt_of_le hb hs0)).trans g0
          have k1 := (hb'.cell (p := ⟨b, o + kk * 2 + 1, none⟩) (Nat.lt_of_lt_of_le hb hs0)).trans g1
          have bs1 := hb'.size
          clear hb' g0 g1
          go_wp2_with fail
          go_quiet (fail)
          go_wp2_with fail
          refine (newFault_any _ _ _).mono ?_
          rintro e w2 ⟨rfl, hb2⟩
          obtain ⟨l1, a0, a1, f0, f1⟩ := (FB1.out.drewN nq).below hb2 FB1.out.lt
          have B2 : Below w.heap.size w w2 := (below_drewN hB1 nq).trans (hb2.mono (Nat.le_trans hs0 bs1))
          have bs2 := B2.size
          go_wp2
          exact bodyPost_ret (v := faultV q kk) (by simp [results, Tryz.results135, faultV, go_sem, a0, a1]) rfl ⟨by rw [valAV_hit H6.out hlt CL.out HQ.out A.out], (B2.setCell (by first | omega | (simp; done) | (simp; omega)) _).setCell (by first | omega | (simp; done) | (simp; omega)) _⟩
      · have hltz : ¬ (kk : Int) < (xs.length : Int) := by omega
        have e : kk = xs.length := by omega
        have E : Aside (kk = xs.length) := e
        clear e
        obtain ⟨l1, a0, a1, k0, k1⟩ := FB.out
        have hs0 := BW.out.size
        go_wp2
        exact bodyPost_ret (v := faultV 0 0) (by simp [results, Tryz.results135, faultV, go_sem, a0, a1]) rfl ⟨by rw [valAV_miss H6.out fun j hj => A.out j (by have := E.out; omega)], (BW.out.setCell (by first | omega | (simp; done) | (simp; omega)) _).setCell (by first | omega | (simp; done) | (simp; omega)) _⟩

end Go.Proofs.YtmbbmmnpkdfecaaGreatDoor

/- The fault of a list of components, case by case. No program. -/

set_option linter.all false
namespace Go.Proofs.YtmbbmmnpkdfecaaGreatDoor
open Go.RowKit

theorem getD_eq {xs : List ByteArray} {k : Nat} (h : k < xs.length) : xs.getD k ByteArray.empty = xs[k] := by
  rw [List.getD_eq_getElem?_getD, List.getElem?_eq_getElem h]; rfl

theorem vname_mem {xs : List ByteArray} (hv : ∀ j, j < xs.length → vname (xs.getD j ByteArray.empty) = true) : ∀ x ∈ xs, vname x = true := by
  intro x hx
  obtain ⟨j, hj, rfl⟩ := List.mem_iff_getElem.1 hx
  rw [← getD_eq hj]; exact hv j hj

theorem compFault_bad {xs : List ByteArray} {k : Nat} (hk : k < xs.length) (hb : vname (xs.getD k ByteArray.empty) = false) (hA : ∀ j, j < k → vname (xs.getD j ByteArray.empty) = true) : compFault xs = (12, (k : Int)) := by
  unfold compFault; rw [firstBad_hit hk hb hA, if_pos hk]
theorem compFault_deep {xs : List ByteArray} (h8 : 8 < xs.length) (hA : ∀ j, j < xs.length → vname (xs.getD j ByteArray.empty) = true) : compFault xs = (10, 0) := by
  unfold compFault; rw [firstBad_miss hA, if_neg (Nat.lt_irrefl _), if_pos h8]
theorem compFault_fine {xs : List ByteArray} (h8 : ¬ 8 < xs.length) (hA : ∀ j, j < xs.length → vname (xs.getD j ByteArray.empty) = true) : compFault xs = (0, 0) := by
  unfold compFault; rw [firstBad_miss hA, if_neg (Nat.lt_irrefl _), if_neg h8]

end Go.Proofs.YtmbbmmnpkdfecaaGreatDoor

/- Contracts of the leaves: present, cmp.Compare at strings, find's own function. Conditions: the strings are of at most the model's longest length. -/

set_option linter.all false
namespace Go.Proofs.YtmbbmmnpkdfecaaGreatDoor
open Go.RowKit

/-- What present returns. -/
def presA (a : Attr) : List Attr := if a.v = ByteArray.empty then [] else [a]
theorem presA_none {a : Attr} (h : a.v = ByteArray.empty) : presA a = [] := by unfold presA; rw [if_pos h]
theorem presA_one {a : Attr} (h : a.v ≠ ByteArray.empty) : presA a = [a] := by unfold presA; rw [if_neg h]
def PresPost (x y : ByteArray) (w : World) (e : Ending) (w' : World) : Prop :=
  ∃ v, e = .returned v ∧ Ats w' w'.heap.size v (presA ⟨x, y⟩) ∧ Below w.heap.size w w'
set_option maxHeartbeats 400000 in
theorem present_any (x y : ByteArray) (w : World) (hf : (⟨x, y⟩ : Attr).fits) :
    Calls Tryz.prog 156 #[.agg #[.string x, .string y]] w (PresPost x y w) := by
  have HF := Lib.hid hf
  clear hf
  by_cases h : y = ByteArray.empty
  · have hb : (y.toList.isEmpty) = true := by rw [isEmpty_str]; simpa using h
    have HP := Lib.hid (show presA ⟨x, y⟩ = [] from presA_none h)
    clear h
    go_enter Tryz.func156, Tryz.ntmps156
    go_wp2
    go_ret
    exact ⟨_, rfl, by rw [HP.out]; exact Ats.none_ _ _, (Below.refl _ _).alloc (Nat.le_refl _) _⟩
  · have hb : (y.toList.isEmpty) = false := by rw [isEmpty_str]; simpa using h
    have HP := Lib.hid (show presA ⟨x, y⟩ = [⟨x, y⟩] from presA_one h)
    clear h
    go_enter Tryz.func156, Tryz.ntmps156
    go_wp2
    go_ret
    refine ⟨_, rfl, ?_, ((Below.refl _ _).alloc (Nat.le_refl _) _).alloc (by simp) _⟩
    rw [HP.out]
    exact (ats_one (w.alloc (.cells #[.string x, .string y] 28)) _ (by simp) ⟨x, y⟩ HF.out _).more (by simp)

/-- What cmp.Compare says of two strings. -/
def cmpS (a b : ByteArray) : Int := if ltS a b = true then -1 else if ltS b a = true then 1 else 0
theorem cmpS_lt {a b : ByteArray} : cmpS a b < 0 ↔ ltS a b = true := by
  unfold cmpS; split
  · rename_i h; simp [h]
  · rename_i h; split
    · simp [h]
    · simp [h]
theorem cmpS_eq {a b : ByteArray} : cmpS a b = 0 ↔ a = b := by
  unfold cmpS; split
  · rename_i h; exact ⟨fun h' => (by cases h'), fun e => absurd e (ltS_ne h)⟩
  · rename_i h; split
    · rename_i h2; exact ⟨fun h' => (by cases h'), fun e => absurd e.symm (ltS_ne h2)⟩
    · rename_i h2; exact ⟨fun _ => ltS_eq (by simpa using h) (by simpa using h2), fun _ => rfl⟩
set_option maxHeartbeats 400000 in
theorem nanS_any (a : ByteArray) (w : World) :
    Calls Tryz.prog 146 #[.string a] w fun e w' => e = .returned (.bool false) ∧ w' = w := by
  have hb : (a.toList == a.toList) = true := by simp
  go_enter Tryz.func146, Tryz.ntmps146
  go_wp2
  all_goals
    go_ret
    exact ⟨by first | rfl | simp, rfl⟩
set_option maxHeartbeats 400000 in
theorem compareS_any (a b : ByteArray) (w : World) :
    Calls Tryz.prog 97 #[.string a, .string b] w fun e w' => e = .returned (.int .i64 (cmpS a b)) ∧ w' = w := by
  have HF := Lib.hid (show cmpS a b = if ltS a b = true then -1 else if ltS b a = true then 1 else 0 from rfl)
  generalize cmpS a b = q at *
  cases h1 : ltS a b with
  | true =>
    have hb : Op.bytesLess a.toList b.toList = true := h1
    rw [h1, if_pos rfl] at HF
    clear h1
    go_enter Tryz.func97, Tryz.ntmps97
    go_wp2_with fail
    refine (nanS_any _ _).mono ?_
    rintro e w' ⟨rfl, rfl⟩
    go_wp2_with fail
    refine (nanS_any _ _).mono ?_
    rintro e w' ⟨rfl, rfl⟩
    go_wp2_with fail
    go_ret
    exact ⟨ret_int HF.out.symm, rfl⟩
  | false =>
    have hb : Op.bytesLess a.toList b.toList = false := h1
    rw [h1, if_neg (by simp)] at HF
    cases h2 : ltS b a with
    | true =>
      have hn : (a.toList == b.toList) = false := by rw [beq_str]; simpa using (ltS_ne h2).symm
      rw [h2, if_pos rfl] at HF
      clear h1 h2
      go_enter Tryz.func97, Tryz.ntmps97
      go_wp2_with fail
      refine (nanS_any _ _).mono ?_
      rintro e w' ⟨rfl, rfl⟩
      go_wp2_with fail
      refine (nanS_any _ _).mono ?_
      rintro e w' ⟨rfl, rfl⟩
      go_wp2_with fail
      go_ret
      exact ⟨ret_int HF.out.symm, rfl⟩
    | false =>
      have hn : (a.toList == b.toList) = true := by rw [beq_str]; simpa using ltS_eq h1 h2
      rw [h2, if_neg (by simp)] at HF
      clear h1 h2
      go_enter Tryz.func97, Tryz.ntmps97
      go_wp2_with fail
      refine (nanS_any _ _).mono ?_
      rintro e w' ⟨rfl, rfl⟩
      go_wp2_with fail
      refine (nanS_any _ _).mono ?_
      rintro e w' ⟨rfl, rfl⟩
      go_wp2_with fail
      go_ret
      exact ⟨ret_int HF.out.symm, rfl⟩
set_option maxHeartbeats 400000 in
theorem find1_any (x y b : ByteArray) (w : World) :
    Calls Tryz.prog 180 #[.agg #[.string x, .string y], .string b] w fun e w' => e = .returned (.int .i64 (cmpS x b)) ∧ Below w.heap.size w w' := by
  go_enter Tryz.func180, Tryz.ntmps180
  go_wp2_with fail
  refine (compareS_any _ _ _).mono ?_
  rintro e w' ⟨rfl, rfl⟩
  go_wp2
  go_ret
  exact ⟨rfl, (Below.refl _ _).alloc (Nat.le_refl _) _⟩
theorem eg_find1 : ∀ args w, (callFunc 180 args).run Tryz.prog w = .ok (.enter 180 args) w := enters_of Tryz.func180 (by kernel_rfl) rfl

end Go.Proofs.YtmbbmmnpkdfecaaGreatDoor
