/- path.Split at every string: the components and the fault. Conditions: the library's variable that bounds a search holds an int (it is read by strings.Split's text alone), the string is of at most the model's longest length. -/
import Derived.Test.YteomlacohddecaaDoorPathPieces
import Derived.Test.YteomlacohddecaaDoorPathCompF

set_option linter.all false
namespace Go.Proofs.YteomlacohddecaaDoor
open Go.RowKit

/-- The library's variable internal/bytealg.MaxLen holds an int. -/
def GM (w : World) : Prop := 0 < w.heap.size ∧ ∃ m : Int, w.cell? ⟨0, 0, none⟩ = some (.int .i64 m)
theorem GM.below {w w' : World} (h : GM w) (hb : Below w.heap.size w w') : GM w' := by
  obtain ⟨hl, m, hm⟩ := h
  exact ⟨Nat.lt_of_lt_of_le hl hb.size, m, (hb.cell (p := ⟨0, 0, none⟩) hl).trans hm⟩

theorem strs_new (w : World) (xs : List ByteArray) (t : TypeId) (hl : xs.length ≤ 35184372088832) (hs : ∀ x ∈ xs, x.size ≤ maxLen) :
    Strs (w.alloc (.cells (xs.map Value.string).toArray t)) (w.alloc (.cells (xs.map Value.string).toArray t)).heap.size (.slice (some ⟨w.heap.size, 0, none⟩) xs.length xs.length) xs := by
  refine ⟨_, _, rfl, Nat.le_refl _, hl, hs, fun _ => ⟨_, _, rfl, by simp, fun j hj => ?_⟩⟩
  rw [List.getD_eq_getElem?_getD, List.getElem?_eq_getElem hj, Nat.zero_add, cell_of_row _ _ _ _ t (0, 0) (heap_alloc_new w _)]
  simp [hj]

theorem cut_yes (p : ByteArray) (r : List UInt8) (h : p.data.toList = 47 :: r) (w : World) :
    Calls Tryd.prog 14 #[.string p, .string ⟨#[47]⟩] w fun e w' => e = .returned (.tuple #[.string (toB r), .bool true]) ∧ w = w' := by
  refine (Tryd.strings_CutPrefix p ⟨#[47]⟩ w).mono fun e w' ⟨he, hw⟩ => ⟨?_, hw.symm⟩
  rw [he, h]
  simp [Lib.hasPrefix, Lib.trimPrefix, toB]
theorem noPrefix : ∀ (l : List UInt8), (∀ r, l ≠ 47 :: r) → Lib.hasPrefix l [47] = false
  | [], _ => rfl
  | c :: r, h => by
    unfold Lib.hasPrefix
    by_cases e : c = 47
    · exact absurd (by rw [e]) (h r)
    · rw [List.isPrefixOf_cons_cons, beq_eq_false_iff_ne.2 (fun x : (47 : UInt8) = c => e x.symm)]; rfl
theorem cut_no (p : ByteArray) (h : ∀ r, p.data.toList ≠ 47 :: r) (w : World) :
    Calls Tryd.prog 14 #[.string p, .string ⟨#[47]⟩] w fun e w' => e = .returned (.tuple #[.string p, .bool false]) ∧ w = w' := by
  refine (Tryd.strings_CutPrefix p ⟨#[47]⟩ w).mono fun e w' ⟨he, hw⟩ => ⟨?_, hw.symm⟩
  rw [he, show ((⟨#[47]⟩ : ByteArray).data.toList) = [47] from rfl, Lib.trimPrefix, noPrefix _ h, if_neg (by simp)]

theorem splitS_any (s : ByteArray) (w : World) (hg : GM w) (hs : s.size ≤ 100) :
    Calls Tryd.prog 15 #[.string s, .string ⟨#[47]⟩] w fun e w' =>
      e = .returned (.slice (some ⟨w.heap.size, 0, none⟩) (comps s.data.toList).length (comps s.data.toList).length) ∧
      Strs w' w'.heap.size (.slice (some ⟨w.heap.size, 0, none⟩) (comps s.data.toList).length (comps s.data.toList).length) (comps s.data.toList) ∧ Below w.heap.size w w' := by
  obtain ⟨hl, m, hm⟩ := hg
  refine (Tryd.strings_Split s ⟨#[47]⟩ m w (by omega) hm (by decide)).mono fun e w' ⟨he, hw⟩ => ?_
  rw [splitB_comps] at hw
  rw [← comps_len] at he
  subst hw
  have hsz : s.data.toList.length = s.size := by simp
  refine ⟨he, strs_new w _ _ ?_ ?_, (Below.refl _ _).alloc (Nat.le_refl _) _⟩
  · have := comps_len_le s.data.toList; omega
  · intro x hx
    have := comps_size hx
    unfold maxLen; omega

/-- What Split answers: the fault, the components. -/
def splitF (p : ByteArray) : Int × Int :=
  if 100 < p.size then (2, 0) else match p.data.toList with
  | [] => (5, 0)
  | c :: r => if c = 47 then (if r = [] then (0, 0) else compFault (comps r)) else (5, 0)
def splitL (p : ByteArray) : List ByteArray :=
  if (splitF p).1 = 0 then match p.data.toList with
  | [] => []
  | _ :: r => if r = [] then [] else comps r
  else []

def SplitPost (p : ByteArray) (w : World) (e : Ending) (w' : World) : Prop :=
  ∃ v, e = .returned (.tuple #[v, .agg #[.int .i64 (splitF p).1, .int .i64 (splitF p).2]]) ∧ Strs w' w'.heap.size v (splitL p) ∧ Below w.heap.size w w' ∧ (∀ g, v.ownBlock = some g → w.heap.size ≤ g)

theorem splitPost_fault {p : ByteArray} {w w' : World} {c i : Int} (h : splitF p = (c, i)) (hc : c ≠ 0) (hb : Below w.heap.size w w') :
    SplitPost p w (.returned (.tuple #[.slice none 0 0, .agg #[.int .i64 c, .int .i64 i]])) w' := by
  refine ⟨.slice none 0 0, by rw [h], ?_, hb, fun g hg => by cases hg⟩
  have : splitL p = [] := by unfold splitL; rw [h, if_neg hc]
  rw [this]
  exact ⟨none, 0, rfl, by simp, by simp, by simp, fun h => absurd h (by simp)⟩

set_option maxHeartbeats 400000 in
theorem pathSplit_long (p : ByteArray) (w : World) (hp : p.size ≤ maxLen) (hl : 100 < p.size) :
    Calls Tryd.prog 8 #[.string p] w (SplitPost p w) := by
  unfold maxLen at hp
  have HF := Lib.hid (show splitF p = (2, 0) by unfold splitF; rw [if_pos hl])
  have hl2 : (100 : Int) < (p.size : Int) := by omega
  go_enter Tryd.func8, Tryd.ntmps8
  go_wp2
  refine bodyPost_ret (v := .tuple #[.slice none 0 0, .agg #[.int .i64 2, .int .i64 0]]) ?_ rfl (splitPost_fault HF.out (by decide) ?_)
  · simp [results, Tryd.results8, go_sem]
  · repeat (first | exact Below.refl _ _ | refine Below.setCell ?_ (by simp) _ | refine Below.alloc ?_ (by simp) _ | refine Below.drew ?_)

set_option maxHeartbeats 400000 in
theorem pathSplit_bare (p : ByteArray) (w : World) (hp : p.size ≤ maxLen) (hl : ¬ 100 < p.size) (hr : ∀ r, p.data.toList ≠ 47 :: r) :
    Calls Tryd.prog 8 #[.string p] w (SplitPost p w) := by
  unfold maxLen at hp
  have HF := Lib.hid (show splitF p = (5, 0) by
    unfold splitF; rw [if_neg hl]
    cases hd : p.data.toList with
    | nil => rfl
    | cons c r =>
      have : c ≠ 47 := fun e => hr r (by rw [hd, e])
      simp only [if_neg this])
  have hl2 : ¬ (100 : Int) < (p.size : Int) := by omega
  have HC := Lib.hid (cut_no p hr)
  clear hr
  go_enter Tryd.func8, Tryd.ntmps8
  go_wp2_with fail
  refine (HC.out _).mono ?_
  rintro e w' ⟨rfl, rfl⟩
  go_wp2
  refine bodyPost_ret (v := .tuple #[.slice none 0 0, .agg #[.int .i64 5, .int .i64 0]]) ?_ rfl (splitPost_fault HF.out (by decide) ?_)
  · simp [results, Tryd.results8, go_sem]
  · repeat (first | exact Below.refl _ _ | refine Below.setCell ?_ (by simp) _ | refine Below.alloc ?_ (by simp) _ | refine Below.drew ?_)

set_option maxHeartbeats 400000 in
theorem pathSplit_root (p : ByteArray) (w : World) (hp : p.size ≤ maxLen) (hl : ¬ 100 < p.size) (hr : p.data.toList = [47]) :
    Calls Tryd.prog 8 #[.string p] w (SplitPost p w) := by
  unfold maxLen at hp
  have HF := Lib.hid (show splitF p = (0, 0) ∧ splitL p = [] by
    have : splitF p = (0, 0) := by unfold splitF; rw [if_neg hl, hr]; rfl
    refine ⟨this, ?_⟩
    unfold splitL; rw [this, hr]; rfl)
  have hl2 : ¬ (100 : Int) < (p.size : Int) := by omega
  have HC := Lib.hid (cut_yes p [] hr)
  clear hr
  go_enter Tryd.func8, Tryd.ntmps8
  go_wp2_with fail
  refine (HC.out _).mono ?_
  rintro e w' ⟨rfl, rfl⟩
  have hem : (toB []).toList.isEmpty = true := by rw [Lib.toList_data, toB_data]; rfl
  go_wp2
  refine bodyPost_ret (v := .tuple #[.slice none 0 0, .agg #[.int .i64 0, .int .i64 0]]) ?_ rfl ⟨.slice none 0 0, by rw [HF.out.1], ?_, ?_, fun g hg => by cases hg⟩
  · simp [results, Tryd.results8, go_sem]
  · rw [HF.out.2]; exact ⟨none, 0, rfl, by simp, by simp, by simp, fun h => absurd h (by simp)⟩
  · repeat (first | exact Below.refl _ _ | refine Below.setCell ?_ (by simp) _ | refine Below.alloc ?_ (by simp) _ | refine Below.drew ?_)

set_option maxHeartbeats 400000 in
theorem pathSplit_comps (p : ByteArray) (r : List UInt8) (w : World) (hg : GM w) (hp : p.size ≤ maxLen) (hl : ¬ 100 < p.size) (hr : p.data.toList = 47 :: r) (hne : r ≠ []) :
    Calls Tryd.prog 8 #[.string p] w (SplitPost p w) := by
  unfold maxLen at hp
  have HF := Lib.hid (show splitF p = compFault (comps r) by unfold splitF; rw [if_neg hl, hr]; simp only [if_true, if_neg hne])
  have HL := Lib.hid (show (compFault (comps r)).1 = 0 → splitL p = comps r by
    intro h; unfold splitL; rw [HF.out, if_pos h, hr]; simp only [if_neg hne])
  have hsz : (toB r).size ≤ 100 := by
    have h1 : p.data.toList.length = p.size := by simp
    have h2 : (toB r).size = r.length := by simp [toB, ByteArray.size]
    rw [hr] at h1; simp at h1; omega
  have hl2 : ¬ (100 : Int) < (p.size : Int) := by omega
  have HC := Lib.hid (cut_yes p r hr)
  have hem : (toB r).toList.isEmpty = false := by
    rw [Lib.toList_data, toB_data]
    cases r with
    | nil => exact absurd rfl hne
    | cons c t => rfl
  have hS := fun W (hb : Below w.heap.size w W) => splitS_any (toB r) W (hg.below hb) hsz
  rw [toB_data] at hS
  have HS := Lib.hid hS
  clear hr hne hS
  go_enter Tryd.func8, Tryd.ntmps8
  go_wp2_with fail
  refine (HC.out _).mono ?_
  rintro e w' ⟨rfl, rfl⟩
  go_wp2_with fail
  refine (HS.out _ ((Below.refl _ _).alloc (Nat.le_refl _) _)).mono ?_
  rintro e w1 ⟨rfl, hS0, b1⟩
  have hS1 : Strs w1 w1.heap.size (.slice (some ⟨w.heap.size + 1, 0, none⟩) (comps r).length (comps r).length) (comps r) := by simpa using hS0
  clear hS0
  have X1 := Lib.hid ((FBox.new w 0 0 26).below b1 (by simp))
  have B1 : Below w.heap.size w w1 := ((Below.refl _ _).alloc (Nat.le_refl _) _).trans (b1.mono (by simp))
  clear b1
  go_wp2_with fail
  refine (checkComponents_any _ _ _ hS1).mono ?_
  unfold compV faultV
  rintro e w2 ⟨rfl, b2⟩
  have hS2 := Lib.hid ((hS1.below b2).more b2.size)
  have X2 := Lib.hid (X1.out.below b2 X1.out.lt)
  have B2 : Below w.heap.size w w2 := B1.trans (b2.mono B1.size)
  clear X1 B1 b2 hS1
  by_cases hc : (compFault (comps r)).1 = 0
  · have hi := (compFault_ok hc).2.1
    have HP := Lib.hid (show splitF p = (0, 0) by rw [HF.out]; exact Prod.ext hc hi)
    have HQ := Lib.hid (HL.out hc)
    rw [hc, hi]
    clear hc hi
    obtain ⟨l2, a0, a1, f0, f1⟩ := X2.out
    go_wp2
    refine bodyPost_ret (v := .tuple #[.slice (some ⟨w.heap.size + 1, 0, none⟩) (comps r).length (comps r).length, .agg #[.int .i64 0, .int .i64 0]]) ?_ rfl ⟨_, by rw [HP.out], ?_, ?_, fun g hg => by injection hg with hg; subst hg; simp⟩
    · simp [results, Tryd.results8, go_sem, a0, a1, l2]
    · rw [HQ.out]
      exact (((hS2.out.set (by simp) _).set (by simp) _).alloc (by simp) _).more (by simp)
    · repeat (first | exact B2 | refine Below.setCell ?_ (by simp) _ | refine Below.alloc ?_ (by simp; omega) _ | refine Below.drew ?_)
  · have HP := Lib.hid (show splitF p = ((compFault (comps r)).1, (compFault (comps r)).2) from HF.out)
    have HN := Lib.hid hc
    generalize (compFault (comps r)).1 = c at *
    generalize (compFault (comps r)).2 = i at *
    have hc1 : (c != 0) = true := by simpa using hc
    have hc2 : (c == 0) = false := by simpa using hc
    clear hc
    obtain ⟨l2, a0, a1, f0, f1⟩ := X2.out
    go_wp2
    go_region
    go_wp2
    refine bodyPost_ret (v := .tuple #[.slice none 0 0, .agg #[.int .i64 c, .int .i64 i]]) ?_ rfl (splitPost_fault HP.out HN.out ?_)
    · simp [results, Tryd.results8, go_sem, a0, a1, l2]
    · repeat (first | exact B2 | refine Below.setCell ?_ (by simp) _ | refine Below.alloc ?_ (by simp; omega) _ | refine Below.drew ?_)

theorem pathSplit_any (p : ByteArray) (w : World) (hg : GM w) (hp : p.size ≤ maxLen) :
    Calls Tryd.prog 8 #[.string p] w (SplitPost p w) := by
  by_cases hl : 100 < p.size
  · exact pathSplit_long p w hp hl
  · cases hd : p.data.toList with
    | nil => exact pathSplit_bare p w hp hl (fun r h => by rw [hd] at h; cases h)
    | cons c r =>
      by_cases hc : c = 47
      · subst hc
        by_cases hr : r = []
        · subst hr; exact pathSplit_root p w hp hl hd
        · exact pathSplit_comps p r w hg hp hl hd hr
      · exact pathSplit_bare p w hp hl (fun r' h => by rw [hd] at h; injection h with h; exact hc h)

end Go.Proofs.YteomlacohddecaaDoor
