/- Package memfs and what it calls, at this seat's translation.
   Condition: as each theorem states; this text: PathSplit, AttrConcat, AttrFind, AttrGet, PathRefSplit, AttrPut, PathEqual, PathContains. -/
import Derived.Test.YtmbbmmnpkdfecaaGreatDoorMb4
import Derived.Deep.LoopGhost
import Derived.Lib.AppendZerosOnto
import Derived.Lib.SliceRun
import Derived.Deep.Draws
import Derived.BigQuiet
import Derived.Laws.OwnMore
import Derived.RegionTactic
import Derived.IntWalk

set_option linter.all false

/- path.Split at every string: the components and the fault. Conditions: the library's variable that bounds a search holds an int (it is read by strings.Split's text alone), the string is of at most the model's longest length. -/

set_option linter.all false
namespace Go.Proofs.YtmbbmmnpkdfecaaGreatDoor
open Go.RowKit

/-- The library's variable internal/bytealg.MaxLen holds an int. -/
def GM (w : World) : Prop := 0 < w.heap.size ∧ ∃ m : Int, w.cell? ⟨0, 0, none⟩ = some (.int .i64 m)
theorem GM.below {w w' : World} (h : GM w) (hb : Below w.heap.size w w') : GM w' := by
  obtain ⟨hl, m, hm⟩ := h
  exact ⟨Nat.lt_of_lt_of_le hl hb.size, m, (hb.cell (p := ⟨0, 0, none⟩) hl).trans hm⟩

theorem strs_new (w : World) (xs : List ByteArray) (t : TypeId) (hl : xs.length ≤ 35184372088832) (hs : ∀ x ∈ xs, x.size ≤ maxLen) :
    Strs (w.alloc (.cells (xs.map Value.string).toArray t)) (w.alloc (.cells (xs.map Value.string).toArray t)).heap.size (.slice (some ⟨w.heap.size, 0, none⟩) xs.length xs.length) xs := by
  refine ⟨_, _, rfl, Nat.le_refl _, hl, hs, fun _ => ⟨_, _, rfl, by simp, fun j hj => ?_⟩⟩
  rw [List.getD_eq_getElem?_getD, List.getElem?_eq_getElem hj, Nat.zero_add, cell_of_row _ _ _ _ t (0, 0) (heap_alloc_new w _)]
  simp [hj]

theorem cut_yes (p : ByteArray) (r : List UInt8) (h : p.data.toList = 47 :: r) (w : World) :
    Calls Tryz.prog 92 #[.string p, .string ⟨#[47]⟩] w fun e w' => e = .returned (.tuple #[.string (toB r), .bool true]) ∧ w = w' := by
  refine (Tryz.strings_CutPrefix p ⟨#[47]⟩ w).mono fun e w' ⟨he, hw⟩ => ⟨?_, hw.symm⟩
  rw [he, h]
  simp [Lib.hasPrefix, Lib.trimPrefix, toB]
theorem noPrefix : ∀ (l : List UInt8), (∀ r, l ≠ 47 :: r) → Lib.hasPrefix l [47] = false
  | [], _ => rfl
  | c :: r, h => by
    unfold Lib.hasPrefix
    by_cases e : c = 47
    · exact absurd (by rw [e]) (h r)
    · rw [List.isPrefixOf_cons_cons, beq_eq_false_iff_ne.2 (fun x : (47 : UInt8) = c => e x.symm)]; rfl
theorem cut_no (p : ByteArray) (h : ∀ r, p.data.toList ≠ 47 :: r) (w : World) :
    Calls Tryz.prog 92 #[.string p, .string ⟨#[47]⟩] w fun e w' => e = .returned (.tuple #[.string p, .bool false]) ∧ w = w' := by
  refine (Tryz.strings_CutPrefix p ⟨#[47]⟩ w).mono fun e w' ⟨he, hw⟩ => ⟨?_, hw.symm⟩
  rw [he, show ((⟨#[47]⟩ : ByteArray).data.toList) = [47] from rfl, Lib.trimPrefix, noPrefix _ h, if_neg (by simp)]

theorem splitS_any (s : ByteArray) (w : World) (hg : GM w) (hs : s.size ≤ 100) :
    Calls Tryz.prog 93 #[.string s, .string ⟨#[47]⟩] w fun e w' =>
      e = .returned (.slice (some ⟨w.heap.size, 0, none⟩) (comps s.data.toList).length (comps s.data.toList).length) ∧
      Strs w' w'.heap.size (.slice (some ⟨w.heap.size, 0, none⟩) (comps s.data.toList).length (comps s.data.toList).length) (comps s.data.toList) ∧ Below w.heap.size w w' := by
  obtain ⟨hl, m, hm⟩ := hg
  refine (Tryz.strings_Split s ⟨#[47]⟩ m w (by omega) hm (by decide)).mono fun e w' ⟨he, hw⟩ => ?_
  rw [splitB_comps] at hw
  rw [← comps_len] at he
  subst hw
  have hsz : s.data.toList.length = s.size := by simp
  refine ⟨he, strs_new w _ _ ?_ ?_, (Below.refl _ _).alloc (Nat.le_refl _) _⟩
  · have := comps_len_le s.data.toList; omega
  · intro x hx
    have := comps_size hx
    unfold maxLen; omega

/-- What Split answers: the fault, the components. -/
def splitF (p : ByteArray) : Int × Int :=
  if 100 < p.size then (2, 0) else match p.data.toList with
  | [] => (5, 0)
  | c :: r => if c = 47 then (if r = [] then (0, 0) else compFault (comps r)) else (5, 0)
def splitL (p : ByteArray) : List ByteArray :=
  if (splitF p).1 = 0 then match p.data.toList with
  | [] => []
  | _ :: r => if r = [] then [] else comps r
  else []

def SplitPost (p : ByteArray) (w : World) (e : Ending) (w' : World) : Prop :=
  ∃ v, e = .returned (.tuple #[v, .agg #[.int .i64 (splitF p).1, .int .i64 (splitF p).2]]) ∧ Strs w' w'.heap.size v (splitL p) ∧ Below w.heap.size w w' ∧ (∀ g, v.ownBlock = some g → w.heap.size ≤ g)

theorem splitPost_fault {p : ByteArray} {w w' : World} {c i : Int} (h : splitF p = (c, i)) (hc : c ≠ 0) (hb : Below w.heap.size w w') :
    SplitPost p w (.returned (.tuple #[.slice none 0 0, .agg #[.int .i64 c, .int .i64 i]])) w' := by
  refine ⟨.slice none 0 0, by rw [h], ?_, hb, fun g hg => by cases hg⟩
  have : splitL p = [] := by unfold splitL; rw [h, if_neg hc]
  rw [this]
  exact ⟨none, 0, rfl, by simp, by simp, by simp, fun h => absurd h (by simp)⟩

set_option maxHeartbeats 400000 in
theorem pathSplit_long (p : ByteArray) (w : World) (hp : p.size ≤ maxLen) (hl : 100 < p.size) :
    Calls Tryz.prog 48 #[.string p] w (SplitPost p w) := by
  unfold maxLen at hp
  have HF := Lib.hid (show splitF p = (2, 0) by unfold splitF; rw [if_pos hl])
  have hl2 : (100 : Int) < (p.size : Int) := by omega
  go_enter Tryz.func48, Tryz.ntmps48
  go_wp2
  refine bodyPost_ret (v := .tuple #[.slice none 0 0, .agg #[.int .i64 2, .int .i64 0]]) ?_ rfl (splitPost_fault HF.out (by decide) ?_)
  · simp [results, Tryz.results48, go_sem]
  · repeat (first | exact Below.refl _ _ | refine Below.setCell ?_ (by simp) _ | refine Below.alloc ?_ (by simp) _ | refine Below.drew ?_)

set_option maxHeartbeats 400000 in
theorem pathSplit_bare (p : ByteArray) (w : World) (hp : p.size ≤ maxLen) (hl : ¬ 100 < p.size) (hr : ∀ r, p.data.toList ≠ 47 :: r) :
    Calls Tryz.prog 48 #[.string p] w (SplitPost p w) := by
  unfold maxLen at hp
  have HF := Lib.hid (show splitF p = (5, 0) by
    unfold splitF; rw [if_neg hl]
    cases hd : p.data.toList with
    | nil => rfl
    | cons c r =>
      have : c ≠ 47 := fun e => hr r (by rw [hd, e])
      simp only [if_neg this])
  have hl2 : ¬ (100 : Int) < (p.size : Int) := by omega
  have HC := Lib.hid (cut_no p hr)
  clear hr
  go_enter Tryz.func48, Tryz.ntmps48
  go_wp2_with fail
  refine (HC.out _).mono ?_
  rintro e w' ⟨rfl, rfl⟩
  go_wp2
  refine bodyPost_ret (v := .tuple #[.slice none 0 0, .agg #[.int .i64 5, .int .i64 0]]) ?_ rfl (splitPost_fault HF.out (by decide) ?_)
  · simp [results, Tryz.results48, go_sem]
  · repeat (first | exact Below.refl _ _ | refine Below.setCell ?_ (by simp) _ | refine Below.alloc ?_ (by simp) _ | refine Below.drew ?_)

set_option maxHeartbeats 400000 in
theorem pathSplit_root (p : ByteArray) (w : World) (hp : p.size ≤ maxLen) (hl : ¬ 100 < p.size) (hr : p.data.toList = [47]) :
    Calls Tryz.prog 48 #[.string p] w (SplitPost p w) := by
  unfold maxLen at hp
  have HF := Lib.hid (show splitF p = (0, 0) ∧ splitL p = [] by
    have : splitF p = (0, 0) := by unfold splitF; rw [if_neg hl, hr]; rfl
    refine ⟨this, ?_⟩
    unfold splitL; rw [this, hr]; rfl)
  have hl2 : ¬ (100 : Int) < (p.size : Int) := by omega
  have HC := Lib.hid (cut_yes p [] hr)
  clear hr
  go_enter Tryz.func48, Tryz.ntmps48
  go_wp2_with fail
  refine (HC.out _).mono ?_
  rintro e w' ⟨rfl, rfl⟩
  have hem : (toB []).toList.isEmpty = true := by rw [Lib.toList_data, toB_data]; rfl
  go_wp2
  refine bodyPost_ret (v := .tuple #[.slice none 0 0, .agg #[.int .i64 0, .int .i64 0]]) ?_ rfl ⟨.slice none 0 0, by rw [HF.out.1], ?_, ?_, fun g hg => by cases hg⟩
  · simp [results, Tryz.results48, go_sem]
  · rw [HF.out.2]; exact ⟨none, 0, rfl, by simp, by simp, by simp, fun h => absurd h (by simp)⟩
  · repeat (first | exact Below.refl _ _ | refine Below.setCell ?_ (by simp) _ | refine Below.alloc ?_ (by simp) _ | refine Below.drew ?_)

set_option maxHeartbeats 400000 in
theorem pathSplit_comps (p : ByteArray) (r : List UInt8) (w : World) (hg : GM w) (hp : p.size ≤ maxLen) (hl : ¬ 100 < p.size) (hr : p.data.toList = 47 :: r) (hne : r ≠ []) :
    Calls Tryz.prog 48 #[.string p] w (SplitPost p w) := by
  unfold maxLen at hp
  have HF := Lib.hid (show splitF p = compFault (comps r) by unfold splitF; rw [if_neg hl, hr]; simp only [if_true, if_neg hne])
  have HL := Lib.hid (show (compFault (comps r)).1 = 0 → splitL p = comps r by
    intro h; unfold splitL; rw [HF.out, if_pos h, hr]; simp only [if_neg hne])
  have hsz : (toB r).size ≤ 100 := by
    have h1 : p.data.toList.length = p.size := by simp
    have h2 : (toB r).size = r.length := by simp [toB, ByteArray.size]
    rw [hr] at h1; simp at h1; omega
  have hl2 : ¬ (100 : Int) < (p.size : Int) := by omega
  have HC := Lib.hid (cut_yes p r hr)
  have hem : (toB r).toList.isEmpty = false := by
    rw [Lib.toList_data, toB_data]
    cases r with
    | nil => exact absurd rfl hne
    | cons c t => rfl
  have hS := fun W (hb : Below w.heap.size w W) => splitS_any (toB r) W (hg.below hb) hsz
  rw [toB_data] at hS
  have HS := Lib.hid hS
  clear hr hne hS
  go_enter Tryz.func48, Tryz.ntmps48
  go_wp2_with fail
  refine (HC.out _).mono ?_
  rintro e w' ⟨rfl, rfl⟩
  go_wp2_with fail
  refine (HS.out _ ((Below.refl _ _).alloc (Nat.le_refl _) _)).mono ?_
  rintro e w1 ⟨rfl, hS0, b1⟩
  have hS1 : Strs w1 w1.heap.size (.slice (some ⟨w.heap.size + 1, 0, none⟩) (comps r).length (comps r).length) (comps r) := by simpa using hS0
  clear hS0
  have X1 := Lib.hid ((FBox.new w 0 0 37).below b1 (by simp))
  have B1 : Below w.heap.size w w1 := ((Below.refl _ _).alloc (Nat.le_refl _) _).trans (b1.mono (by simp))
  clear b1
  go_wp2_with fail
  refine (checkComponents_any _ _ _ hS1).mono ?_
  unfold compV faultV
  rintro e w2 ⟨rfl, b2⟩
  have hS2 := Lib.hid ((hS1.below b2).more b2.size)
  have X2 := Lib.hid (X1.out.below b2 X1.out.lt)
  have B2 : Below w.heap.size w w2 := B1.trans (b2.mono B1.size)
  clear X1 B1 b2 hS1
  by_cases hc : (compFault (comps r)).1 = 0
  · have hi := (compFault_ok hc).2.1
    have HP := Lib.hid (show splitF p = (0, 0) by rw [HF.out]; exact Prod.ext hc hi)
    have HQ := Lib.hid (HL.out hc)
    rw [hc, hi]
    clear hc hi
    obtain ⟨l2, a0, a1, f0, f1⟩ := X2.out
    go_wp2
    refine bodyPost_ret (v := .tuple #[.slice (some ⟨w.heap.size + 1, 0, none⟩) (comps r).length (comps r).length, .agg #[.int .i64 0, .int .i64 0]]) ?_ rfl ⟨_, by rw [HP.out], ?_, ?_, fun g hg => by injection hg with hg; subst hg; simp⟩
    · simp [results, Tryz.results48, go_sem, a0, a1, l2]
    · rw [HQ.out]
      exact (((hS2.out.set (by simp) _).set (by simp) _).alloc (by simp) _).more (by simp)
    · repeat (first | exact B2 | refine Below.setCell ?_ (by simp) _ | refine Below.alloc ?_ (by simp; omega) _ | refine Below.drew ?_)
  · have HP := Lib.hid (show splitF p = ((compFault (comps r)).1, (compFault (comps r)).2) from HF.out)
    have HN := Lib.hid hc
    generalize (compFault (comps r)).1 = c at *
    generalize (compFault (comps r)).2 = i at *
    have hc1 : (c != 0) = true := by simpa using hc
    have hc2 : (c == 0) = false := by simpa using hc
    clear hc
    obtain ⟨l2, a0, a1, f0, f1⟩ := X2.out
    go_wp2
    go_region
    go_wp2
    refine bodyPost_ret (v := .tuple #[.slice none 0 0, .agg #[.int .i64 c, .int .i64 i]]) ?_ rfl (splitPost_fault HP.out HN.out ?_)
    · simp [results, Tryz.results48, go_sem, a0, a1, l2]
    · repeat (first | exact B2 | refine Below.setCell ?_ (by simp) _ | refine Below.alloc ?_ (by simp; omega) _ | refine Below.drew ?_)

theorem pathSplit_any (p : ByteArray) (w : World) (hg : GM w) (hp : p.size ≤ maxLen) :
    Calls Tryz.prog 48 #[.string p] w (SplitPost p w) := by
  by_cases hl : 100 < p.size
  · exact pathSplit_long p w hp hl
  · cases hd : p.data.toList with
    | nil => exact pathSplit_bare p w hp hl (fun r h => by rw [hd] at h; cases h)
    | cons c r =>
      by_cases hc : c = 47
      · subst hc
        by_cases hr : r = []
        · subst hr; exact pathSplit_root p w hp hl hd
        · exact pathSplit_comps p r w hg hp hl hd hr
      · exact pathSplit_bare p w hp hl (fun r' h => by rw [hd] at h; injection h with h; exact hc h)

end Go.Proofs.YtmbbmmnpkdfecaaGreatDoor

/- slices.Grow from nil and slices.Concat at lists of attributes: a new list of all attributes in order. Conditions: the slices' cells lie in memory as they read; a thousand attributes together at the most. -/

set_option linter.all false
namespace Go.Proofs.YtmbbmmnpkdfecaaGreatDoor
open Go.RowKit

theorem own_zero {w : World} {base g cap : Nat} {cur : Array Value} (hb : base ≤ g) (hg : w.heap[g]? = some (.cells cur 28)) (hc : cap ≤ maxLen) (hs : cur.size = cap * 2) : w.ownsRow base 28 2 (.slice (some ⟨g, 0, none⟩) 0 cap) 0 [] := by
  refine ⟨rfl, .inr ⟨_, cap, cur, rfl, hb, hg, Nat.zero_le _, hc, hs, ?_⟩⟩
  simp

set_option maxRecDepth 100000 in
set_option maxHeartbeats 2000000 in
theorem grow_any (n : Nat) (w : World) (hn : n ≤ 100000) :
    Calls Tryz.prog 181 #[.slice none 0 0, .int .i64 (n : Int)] w fun e w' => ∃ v, e = .returned v ∧ w'.ownsRow w.heap.size 28 2 v 0 (flatA []) ∧ Below w.heap.size w w' := by
  obtain ⟨i0, hi, hz0, hz1, hz2⟩ := info_parts attr_info
  have h0 : (0 : Int) ≤ (n : Int) := Int.natCast_nonneg _
  by_cases hp : 0 < n
  · have hrz : ∀ ty, (Builtin.append_ #[61, 3] ty #[.slice none 0 0, .int .i64 (n : Int)]).run Tryz.prog w =
        .ok (.slice (some ⟨w.heap.size, 0, none⟩) n (grownCap w n 0 28)) (w.drew.alloc (.cells (#[] ++ Builtin.zeroCells (Value.agg #[.string ByteArray.empty, .string ByteArray.empty]).cells n ++ Builtin.zeroCells (Value.agg #[.string ByteArray.empty, .string ByteArray.empty]).cells (grownCap w n 0 28 - n)) 28)) := fun ty => by
      have h := Lib.run_append_grow_zeros w 61 3 ty 28 i0 _ .i64 .i64 Tryz.underlying61 Tryz.underlying3 hi hz0 none 0 0 [] (by exact run_firstCells_none w.drew i0.size 0 0 0) n hp (by omega) (by omega) (by omega) (by rw [hz2]; omega)
        (growslice_fits (by omega) (by rw [hz2]; omega))
      simpa using h
    have hG : n ≤ grownCap w n 0 28 := grownCap_ge w _ _ _
    have hG63 := grownCap_le_maxLen w n 0 28 (by unfold maxLen; omega)
    generalize grownCap w n 0 28 = G at *
    have hG2 : G ≤ 9223372036854775807 := by unfold maxLen at hG63; omega
    have hOWN : Hid (∀ W : World, W.heap.size = w.heap.size → (W.alloc (.cells (#[] ++ Builtin.zeroCells (Value.agg #[.string ByteArray.empty, .string ByteArray.empty]).cells n ++ Builtin.zeroCells (Value.agg #[.string ByteArray.empty, .string ByteArray.empty]).cells (G - n)) 28)).ownsRow w.heap.size 28 2 (.slice (some ⟨w.heap.size, 0, none⟩) 0 G) 0 (flatA [])) := Lib.hid (fun W hW => by
      refine own_zero (Nat.le_refl _) (by rw [← hW]; exact heap_alloc_new W _) hG63 ?_
      simp [Builtin.zeroCells, Value.cells]
      omega)
    generalize (#[] ++ Builtin.zeroCells (Value.agg #[.string ByteArray.empty, .string ByteArray.empty]).cells n ++ Builtin.zeroCells (Value.agg #[.string ByteArray.empty, .string ByteArray.empty]).cells (G - n)) = CS at *
    clear hi hz0 hz1 hz2
    go_enter Tryz.func181, Tryz.ntmps181
    go_wp2_with (at_builtin; refine Lib.wpList_append_run _ rfl _ _ _ _ rfl _ _ rfl rfl _ _ (hrz _) ?_)
    all_goals
      go_ret
      exact ⟨_, rfl, hOWN.out _ rfl, ((Below.refl _ _).drew).alloc (Nat.le_refl _) _⟩
  · obtain rfl : n = 0 := by omega
    clear hi hz0 hz1 hz2
    go_enter Tryz.func181, Tryz.ntmps181
    go_wp2
    go_ret
    exact ⟨_, rfl, ⟨rfl, .inl ⟨rfl, rfl⟩⟩, Below.refl _ _⟩

/-- The slice v of slices reads as the lists xss, all of it below block B. -/
def Ass (w : World) (B : Nat) (v : Value) (vs : List Value) (xss : List (List Attr)) : Prop :=
  ∃ a c, v = .slice a xss.length c ∧ xss.length ≤ c ∧ xss.length ≤ 1000 ∧ (∀ j, j < xss.length → Ats w B (vs.getD j undef) (xss.getD j [])) ∧
    (0 < xss.length → ∃ b o, a = some ⟨b, o, none⟩ ∧ b < B ∧ ∀ j, j < xss.length → w.cell? ⟨b, o + j, none⟩ = some (vs.getD j undef))
theorem Ass.below {w w' : World} {B : Nat} {v : Value} {vs : List Value} {xss : List (List Attr)} (h : Ass w B v vs xss) (hb : Below B w w') : Ass w' B v vs xss := by
  obtain ⟨a, c, hv, hc, hl, hA, hx⟩ := h
  refine ⟨a, c, hv, hc, hl, fun j hj => (hA j hj).below hb, fun h0 => ?_⟩
  obtain ⟨b, o, ha, hB, hj⟩ := hx h0
  exact ⟨b, o, ha, hB, fun j h => (hb.cell (p := ⟨b, o + j, none⟩) hB).trans (hj j h)⟩
theorem Ass.more {w : World} {B B' : Nat} {v : Value} {vs : List Value} {xss : List (List Attr)} (h : Ass w B v vs xss) (hB : B ≤ B') : Ass w B' v vs xss := by
  obtain ⟨a, c, hv, hc, hl, hA, hx⟩ := h
  refine ⟨a, c, hv, hc, hl, fun j hj => (hA j hj).more hB, fun h0 => ?_⟩
  obtain ⟨b, o, ha, hb, hj⟩ := hx h0
  exact ⟨b, o, ha, by omega, hj⟩
theorem Ass.up {w w' : World} {v : Value} {vs : List Value} {xss : List (List Attr)} (h : Ass w w.heap.size v vs xss) (hb : Below w.heap.size w w') : Ass w' w'.heap.size v vs xss :=
  (h.below hb).more hb.size
theorem ass_two (w : World) (n : Nat) (hn : n = w.heap.size) (u1 u2 : Value) (xs ys : List Attr) (h1 : Ats w w.heap.size u1 xs) (h2 : Ats w w.heap.size u2 ys) (t : TypeId) : Ass (w.alloc (.cells #[u1, u2] t)) (w.heap.size + 1) (.slice (some ⟨n, 0, none⟩) 2 2) [u1, u2] [xs, ys] := by
  subst hn
  refine ⟨_, _, rfl, by simp, by simp, ?_, fun _ => ⟨_, _, rfl, by simp, ?_⟩⟩
  · intro j hj
    match j, hj with
    | 0, _ => exact (h1.alloc (Nat.le_refl _) _).more (by simp)
    | 1, _ => exact (h2.alloc (Nat.le_refl _) _).more (by simp)
  · intro j hj
    match j, hj with
    | 0, _ => simp
    | 1, _ => simp
theorem ass_three (w : World) (n : Nat) (hn : n = w.heap.size) (u1 u2 u3 : Value) (xs ys zs : List Attr) (h1 : Ats w w.heap.size u1 xs) (h2 : Ats w w.heap.size u2 ys) (h3 : Ats w w.heap.size u3 zs) (t : TypeId) : Ass (w.alloc (.cells #[u1, u2, u3] t)) (w.heap.size + 1) (.slice (some ⟨n, 0, none⟩) 3 3) [u1, u2, u3] [xs, ys, zs] := by
  subst hn
  refine ⟨_, _, rfl, by simp, by simp, ?_, fun _ => ⟨_, _, rfl, by simp, ?_⟩⟩
  · intro j hj
    match j, hj with
    | 0, _ => exact (h1.alloc (Nat.le_refl _) _).more (by simp)
    | 1, _ => exact (h2.alloc (Nat.le_refl _) _).more (by simp)
    | 2, _ => exact (h3.alloc (Nat.le_refl _) _).more (by simp)
  · intro j hj
    match j, hj with
    | 0, _ => simp
    | 1, _ => simp
    | 2, _ => simp
theorem Ats.fixed {w w' : World} {B : Nat} {v : Value} {xs : List Attr} (h : Ats w B v xs) (hk : ∀ b o, b < B → w'.cell? ⟨b, o, none⟩ = w.cell? ⟨b, o, none⟩) : Ats w' B v xs := h.keep hk

/-- All attributes of the first k lists. -/
def flatK (xss : List (List Attr)) (k : Nat) : List Attr := (xss.take k).flatten
theorem flatK_succ {xss : List (List Attr)} {k : Nat} (h : k < xss.length) : flatK xss (k + 1) = flatK xss k ++ xss.getD k [] := by
  unfold flatK
  rw [List.take_succ_eq_append_getElem h, List.flatten_append, List.getD_eq_getElem?_getD, List.getElem?_eq_getElem h]
  simp
theorem flatK_all (xss : List (List Attr)) : flatK xss xss.length = xss.flatten := by unfold flatK; rw [List.take_length]
theorem flatK_le {xss : List (List Attr)} : ∀ k, (flatK xss k).length ≤ xss.flatten.length := fun k => by
  have h : xss.flatten = flatK xss k ++ (xss.drop k).flatten := by
    unfold flatK; rw [← List.flatten_append, List.take_append_drop]
  rw [h]; simp
theorem flatK_fits {xss : List (List Attr)} (h : ∀ xs ∈ xss, ∀ e ∈ xs, e.fits) : ∀ e ∈ xss.flatten, e.fits := fun e he => by
  obtain ⟨xs, h1, h2⟩ := List.mem_flatten.1 he
  exact h xs h1 e h2
theorem Ass.fits {w : World} {B : Nat} {v : Value} {vs : List Value} {xss : List (List Attr)} (h : Ass w B v vs xss) : ∀ e ∈ xss.flatten, e.fits := by
  obtain ⟨a, c, hv, hc, hl, hA, hx⟩ := h
  refine flatK_fits fun xs hxs => ?_
  obtain ⟨j, hj, rfl⟩ := List.mem_iff_getElem.1 hxs
  have := (hA j hj).fits
  rwa [List.getD_eq_getElem?_getD, List.getElem?_eq_getElem hj] at this

/-- A row of attributes that a call owns, in a block from base on. -/
structure Aown (w : World) (base : Nat) (v : Value) (xs : List Attr) : Prop where
  own : w.ownsRow base 28 2 v xs.length (flatA xs)
  fits : ∀ e ∈ xs, e.fits
  len : xs.length ≤ 4398046511104
theorem Aown.ats {w : World} {base : Nat} {v : Value} {xs : List Attr} (h : Aown w base v xs) : Ats w w.heap.size v xs := ats_own h.own h.fits h.len
theorem Aown.row {w : World} {base B : Nat} {v : Value} {xs : List Attr} (h : Aown w base v xs) (hb : B ≤ base) : w.ownsRow B 28 2 v xs.length (flatA xs) := by
  refine ⟨h.own.1, ?_⟩
  rcases h.own.2 with hn | ⟨g, c, cur, hv, hg, r⟩
  · exact .inl hn
  · exact .inr ⟨g, c, cur, hv, Nat.le_trans hb hg, r⟩
theorem Aown.far {w : World} {base : Nat} {v : Value} {xs : List Attr} (h : Aown w base v xs) {p : Addr} (hp : p.block < base) (u : Value) : Aown (w.setCell p u) base v xs := by
  refine ⟨ownsRow_setCell_other h.own (a := p) (fun e => ?_) u, h.fits, h.len⟩
  have := (h.own.lt _ e).1
  omega
theorem Aown.below {w w' : World} {base : Nat} {v : Value} {xs : List Attr} (h : Aown w base v xs) (hb : Below w.heap.size w w') : Aown w' base v xs :=
  ⟨own_below h.own hb, h.fits, h.len⟩
theorem Aown.form {w : World} {base : Nat} {v : Value} {xs : List Attr} (h : Aown w base v xs) : ∃ a c, v = .slice a xs.length c ∧ xs.length ≤ c := h.ats.form rfl
def ConcPost (xss : List (List Attr)) (w : World) (e : Ending) (w' : World) : Prop :=
  ∃ v, e = .returned v ∧ Aown w' w.heap.size v xss.flatten ∧ Below w.heap.size w w'

set_option maxRecDepth 100000 in
set_option maxHeartbeats 2000000 in
theorem concat_any (v : Value) (vs : List Value) (xss : List (List Attr)) (w : World) (h : Ass w w.heap.size v vs xss) (ht : xss.flatten.length ≤ 1000) :
    Calls Tryz.prog 155 #[v] w (ConcPost xss w) := by
  have HF := Lib.hid h.fits
  obtain ⟨a, c, rfl, hc, hl, hA, hx⟩ := h
  have HX := Lib.hid hx
  have HA := Lib.hid hA
  have HT := Lib.hid ht
  clear hx hA ht
  go_enter Tryz.func155, Tryz.ntmps155
  go_wp2
  go_loopg [3, 5, 11] xss.length (fun gg s3 _ s11 wr => ∃ k m : Nat, k ≤ xss.length ∧ xss.length - k ≤ gg ∧ s11 = .int .i64 k ∧ s3 = .int .i64 m ∧ m ≤ 1000 ∧ w = wr ∧ Aside (m = (flatK xss k).length))
  case atStart => exact ⟨0, 0, by omega, by omega, rfl, rfl, by omega, rfl, (show _ = _ from by simp [flatK])⟩
  case round =>
    obtain ⟨k, m, hk, hg, rfl, rfl, hm, rfl, M⟩ := hrel
    by_cases hlt : k < xss.length
    · have hltz : (k : Int) < (xss.length : Int) := by omega
      obtain ⟨b, o, rfl, hb, hj⟩ := HX.out (by omega)
      have g0 := hj k hlt
      clear hj
      obtain ⟨a5, c5, hv5, _⟩ := (HA.out k hlt).form rfl
      rw [hv5] at g0
      have HM := Lib.hid (show m + (xss.getD k []).length = (flatK xss (k + 1)).length by rw [flatK_succ hlt, List.length_append, M.out])
      have hb1 : m + (xss.getD k []).length ≤ 1000 := by rw [HM.out]; exact Nat.le_trans (flatK_le _) HT.out
      clear hv5 M
      generalize (xss.getD k []).length = n5 at *
      have hneg : ¬ ((m : Int) + (n5 : Int) < 0) := by omega
      go_wp2
      go_roundg (xss.length - (k + 1))
      case measure => omega
      case rel => exact ⟨k + 1, m + n5, by omega, by omega, by go_num, by go_num, hb1, rfl, HM.out⟩
    · have hltz : ¬ (k : Int) < (xss.length : Int) := by omega
      obtain rfl : k = xss.length := by omega
      go_wp2_with fail
      refine (grow_any m _ (by omega)).mono ?_
      rintro e w1 ⟨v6, rfl, O1, b1⟩
      have s1 := b1.size
      have OO := Lib.hid O1
      clear O1 M
      go_wp2_with fail
      go_loopg [6, 8, 27] xss.length (fun gg s6 _ s27 w2 => ∃ k : Nat, k ≤ xss.length ∧ xss.length - k ≤ gg ∧ s27 = .int .i64 k ∧ Aside (w2.ownsRow w.heap.size 28 2 s6 (flatK xss k).length (flatA (flatK xss k))) ∧ Aside (Below w.heap.size w w2))
      case atStart => exact ⟨0, by omega, by omega, rfl, (show World.ownsRow _ _ _ _ _ _ _ from by simpa [flatK] using OO.out), b1⟩
      case round =>
        obtain ⟨k, hk, hg, rfl, O, BW⟩ := hrel
        clear OO b1
        have hs2 := BW.out.size
        by_cases hlt : k < xss.length
        · have hltz : (k : Int) < (xss.length : Int) := by omega
          obtain ⟨b, o, rfl, hb, hj⟩ := HX.out (by omega)
          have g0 := (BW.out.cell (p := ⟨b, o + k, none⟩) hb).trans (hj k hlt)
          clear hj
          have HAK := (HA.out k hlt).below BW.out
          obtain ⟨a5, c5, hv5, _⟩ := HAK.form rfl
          rw [hv5] at g0 HAK
          have HS := Lib.hid (flatK_succ hlt)
          have hb1 : (flatK xss k).length + (xss.getD k []).length ≤ 1000 := by rw [← List.length_append, ← HS.out]; exact Nat.le_trans (flatK_le _) HT.out
          have LT := Lib.hid O.out.lt
          clear hv5
          generalize xss.getD k [] = es at *
          generalize hn5 : es.length = n5 at *
          have HAK2 := Lib.hid HAK
          clear HAK
          go_wp2_with (at_builtin; refine wpList_append_attrs rfl (.tmp 31) (.tmp 32) rfl w.heap.size u6 _ (flatK xss k) rfl O.out w.heap.size (.slice a5 n5 c5) es rfl HAK2.out (by omega) hs2 ?_; intro v3 w3 hown3 hg3)
          have hs3 := hg3.size
          have IN := Lib.hid (show w3.ownsRow w.heap.size 28 2 v3 (flatK xss (k + 1)).length (flatA (flatK xss (k + 1))) by rw [HS.out, List.length_append]; exact hown3)
          have B3 := Lib.hid (BW.out.grown hg3 (by omega) (fun g hg => by have := (LT.out g hg).1; omega))
          clear hown3 hg3
          go_wp2
          go_roundg (xss.length - (k + 1))
          case measure => omega
          case rel => exact ⟨k + 1, by omega, by omega, by go_num, IN.out, B3.out⟩
        · have hltz : ¬ (k : Int) < (xss.length : Int) := by omega
          obtain rfl : k = xss.length := by omega
          go_wp2
          go_ret
          have hO := O.out
          rw [flatK_all] at hO
          exact ⟨_, rfl, ⟨hO, HF.out, by have := HT.out; omega⟩, BW.out⟩

end Go.Proofs.YtmbbmmnpkdfecaaGreatDoor

/- The binary search for a name, the value of a name, and the reference's linear search. Conditions: the slice's cells lie in memory as they read; the list is sorted by name where the theorem says so. -/

set_option linter.all false
namespace Go.Proofs.YtmbbmmnpkdfecaaGreatDoor
open Go.RowKit

def Srt (xs : List Attr) : Prop := xs.Pairwise (fun a b => ltS a.n b.n = true)

set_option maxRecDepth 100000 in
set_option maxHeartbeats 1000000 in
theorem bsearch_any (v : Value) (xs : List Attr) (nm : ByteArray) (w : World) (h : Ats w w.heap.size v xs) (hs : Srt xs) :
    Calls Tryz.prog 179 #[v, .string nm, .func (.func 180) #[] #[]] w fun e w' => e = .returned (.tuple #[.int .i64 (lowB xs nm : Nat), .bool (fnd xs nm)]) ∧ Below w.heap.size w w' := by
  obtain ⟨a, c, rfl, hc, hl, hf, hx⟩ := h
  have eg := eg_find1
  have HX := Lib.hid hx
  have HS := Lib.hid hs
  have hl2 : xs.length ≤ 4611686018427387904 := by omega
  clear hx hf hs
  have FN0 : Hid (fnd xs nm = decide (lowB xs nm < xs.length ∧ (xs.getD (lowB xs nm) A0).n = nm)) := Lib.hid rfl
  generalize hp : lowB xs nm = p at *
  have HP := Lib.hid hp
  clear hp
  generalize fnd xs nm = q at *
  go_enter Tryz.func179, Tryz.ntmps179
  go_wp2
  go_loopg [9, 10] xs.length (fun gg s9 s10 wr => ∃ i j : Nat, i ≤ j ∧ j ≤ xs.length ∧ j - i ≤ gg ∧ s9 = .int .i64 i ∧ s10 = .int .i64 j ∧ Aside (Below w.heap.size w wr) ∧ Aside ((∀ k, k < i → ltS (xs.getD k A0).n nm = true) ∧ (∀ k, j ≤ k → k < xs.length → ltS (xs.getD k A0).n nm = false)))
  case atStart => exact ⟨0, xs.length, Nat.zero_le _, Nat.le_refl _, by omega, rfl, rfl, Below.refl _ w, (show _ ∧ _ from ⟨fun j hj => absurd hj (Nat.not_lt_zero _), fun k h1 h2 => absurd h1 (by omega)⟩)⟩
  case round =>
    obtain ⟨i, j, hij, hj, hg, rfl, rfl, BW, I⟩ := hrel
    by_cases hlt : i < j
    · have hm : (i + j) / 2 < xs.length := by omega
      obtain ⟨b, o, rfl, hb, hcell⟩ := HX.out (by omega)
      have g0 : wr.cell? ⟨b, o + (i + j) / 2 * 2, none⟩ = some (.string (xs.getD ((i + j) / 2) A0).n) := (BW.out.cell (p := ⟨b, _, none⟩) hb).trans (hcell _ hm).1
      have g1 : wr.cell? ⟨b, o + (i + j) / 2 * 2 + 1, none⟩ = some (.string (xs.getD ((i + j) / 2) A0).v) := (BW.out.cell (p := ⟨b, _, none⟩) hb).trans (hcell _ hm).2
      clear hcell
      generalize hy : xs.getD ((i + j) / 2) A0 = y at g0 g1
      obtain ⟨x, z⟩ := y
      have Y := Lib.hid hy
      clear hy
      have hcall := fun W => find1_any x z nm W
      have hq := cmpS_lt (a := x) (b := nm)
      generalize cmpS x nm = q at hcall hq
      have HQ := Lib.hid hq
      clear hq
      by_cases hq0 : q < 0
      · go_wp2_with (go_at_fn 180; refine (hcall _).mono ?_; rintro e w' ⟨rfl, hb'⟩)
        go_roundg (j - ((i + j) / 2 + 1))
        case measure => omega
        case rel =>
          have hlt2 := HQ.out.1 hq0
          have I2 : Aside ((∀ k, k < (i + j) / 2 + 1 → ltS (xs.getD k A0).n nm = true) ∧ (∀ k, j ≤ k → k < xs.length → ltS (xs.getD k A0).n nm = false)) := by
            refine (show _ ∧ _ from ⟨fun k hk => ?_, I.out.2⟩)
            by_cases e : k = (i + j) / 2
            · subst e; rw [Y.out]; exact hlt2
            · refine ltS_trans (srt_at HS.out (i := k) (j := (i + j) / 2) (by omega) hm) ?_
              rw [Y.out]; exact hlt2
          exact ⟨(i + j) / 2 + 1, j, by omega, hj, Nat.le_refl _, by rw [show ((i : Int) + (j : Int)) / 2 + 1 = (((i + j) / 2 + 1 : Nat) : Int) by omega], rfl, BW.out.trans (hb'.mono BW.out.size), I2⟩
      · go_wp2_with (go_at_fn 180; refine (hcall _).mono ?_; rintro e w' ⟨rfl, hb'⟩)
        go_roundg ((i + j) / 2 - i)
        case measure => omega
        case rel =>
          have hlt2 : ltS x nm = false := by
            cases hh : ltS x nm with
            | false => rfl
            | true => exact absurd (HQ.out.2 hh) (by omega)
          have I2 : Aside ((∀ k, k < i → ltS (xs.getD k A0).n nm = true) ∧ (∀ k, (i + j) / 2 ≤ k → k < xs.length → ltS (xs.getD k A0).n nm = false)) := by
            refine (show _ ∧ _ from ⟨I.out.1, fun k hk hkl => ?_⟩)
            by_cases e : k = (i + j) / 2
            · subst e; rw [Y.out]; exact hlt2
            · cases hh : ltS (xs.getD k A0).n nm with
              | false => rfl
              | true =>
                have := ltS_trans (srt_at HS.out (i := (i + j) / 2) (j := k) (by omega) hkl) hh
                rw [Y.out] at this
                simp only at this
                rw [hlt2] at this; cases this
          exact ⟨i, (i + j) / 2, by omega, by omega, Nat.le_refl _, rfl, by rw [show ((i : Int) + (j : Int)) / 2 = (((i + j) / 2 : Nat) : Int) by omega], BW.out.trans (hb'.mono BW.out.size), I2⟩
    · obtain rfl : i = j := by omega
      have ecnt := lowB_of hj I.out.1 I.out.2
      rw [HP.out] at ecnt
      subst ecnt
      have FN := FN0
      clear FN0
      by_cases hn : p < xs.length
      · have hnz : (p : Int) < (xs.length : Int) := by omega
        obtain ⟨b, o, rfl, hb, hcell⟩ := HX.out (by omega)
        have g0 : wr.cell? ⟨b, o + p * 2, none⟩ = some (.string (xs.getD p A0).n) := (BW.out.cell (p := ⟨b, _, none⟩) hb).trans (hcell _ hn).1
        have g1 : wr.cell? ⟨b, o + p * 2 + 1, none⟩ = some (.string (xs.getD p A0).v) := (BW.out.cell (p := ⟨b, _, none⟩) hb).trans (hcell _ hn).2
        clear hcell
        generalize hy : xs.getD p A0 = y at g0 g1 FN
        obtain ⟨x, z⟩ := y
        clear hy
        simp only [hn, true_and] at FN
        have hcall := fun W => find1_any x z nm W
        have hq := cmpS_eq (a := x) (b := nm)
        generalize cmpS x nm = r at hcall hq
        have HQ := Lib.hid hq
        clear hq
        by_cases hr : r = 0
        · have hr1 : (r == 0) = true := by simpa using hr
          have HR := Lib.hid (HQ.out.1 hr)
          clear hr
          go_wp2_with (go_at_fn 180; refine (hcall _).mono ?_; rintro e w' ⟨rfl, hb'⟩)
          go_ret2
          refine ⟨?_, BW.out.trans (hb'.mono BW.out.size)⟩
          rw [FN.out, decide_eq_true HR.out]
          first | rfl | simp
        · have hr1 : (r == 0) = false := by simpa using hr
          have HR := Lib.hid (fun e => hr (HQ.out.2 e))
          clear hr
          go_wp2_with (go_at_fn 180; refine (hcall _).mono ?_; rintro e w' ⟨rfl, hb'⟩)
          go_ret2
          refine ⟨?_, BW.out.trans (hb'.mono BW.out.size)⟩
          rw [FN.out, decide_eq_false HR.out]
          first | rfl | simp
      · have hnd : decide ((p : Int) < (xs.length : Int)) = false := by simp; omega
        have hpp : ¬ ((p : Int) < (p : Int)) := by omega
        have F2 : Hid (q = false) := Lib.hid (by rw [FN.out]; simp [hn])
        clear FN
        go_wp2
        go_ret2
        refine ⟨?_, BW.out⟩
        rw [F2.out]
        first | rfl | simp

theorem find_any (v : Value) (xs : List Attr) (nm : ByteArray) (w : World) (h : Ats w w.heap.size v xs) (hs : Srt xs) :
    Calls Tryz.prog 154 #[v, .string nm] w fun e w' => e = .returned (.tuple #[.int .i64 (lowB xs nm : Nat), .bool (fnd xs nm)]) ∧ Below w.heap.size w w' := by
  have hc := bsearch_any v xs nm w h hs
  generalize lowB xs nm = p at *
  generalize fnd xs nm = q at *
  obtain ⟨a, c, rfl, _⟩ := h
  go_enter Tryz.func154, Tryz.ntmps154
  go_wp2_with fail
  refine hc.mono ?_
  rintro e w' ⟨rfl, hb⟩
  go_wp2
  go_ret2
  exact ⟨rfl, hb⟩

end Go.Proofs.YtmbbmmnpkdfecaaGreatDoor

/- xattr.Get at every list and name. Conditions: the slice's cells lie in memory as they read. -/

set_option linter.all false
namespace Go.Proofs.YtmbbmmnpkdfecaaGreatDoor
open Go.RowKit

def getF (xs : List Attr) (nm : ByteArray) : Int × Int := if (valA xs).1 = 0 then (if getA xs nm = ByteArray.empty then (6, 0) else (0, 0)) else valA xs
def getS (xs : List Attr) (nm : ByteArray) : ByteArray := if (valA xs).1 = 0 then getA xs nm else ByteArray.empty
def getV (xs : List Attr) (nm : ByteArray) : Value := .tuple #[.string (getS xs nm), faultV (getF xs nm).1 (getF xs nm).2]
theorem valA_00 {xs : List Attr} (h : (valA xs).1 = 0) : valA xs = (0, 0) := (good_of h).val

end Go.Proofs.YtmbbmmnpkdfecaaGreatDoor

/- The reference's SplitAt at a slash and its Split, at every string of at most 100 bytes resp. of at most the model's longest length: the same components and fault as path.Split. -/

set_option linter.all false
namespace Go.Proofs.YtmbbmmnpkdfecaaGreatDoor
open Go.RowKit

theorem info9 : (Tryz.prog.info? 9).map (fun i => (i.zero, i.size, i.bytes)) = some (some (.string ByteArray.empty), 1, 16) := by kernel_rfl

/-- What the scan holds after k bytes. -/
def Scan (s : ByteArray) (w : World) (k : Nat) (out now : Value) (wr : World) : Prop :=
  ∃ (done : List (List UInt8)) (nl : List UInt8), now = .string (toB nl) ∧ wr.ownsRow w.heap.size 9 1 out done.length (done.map fun l => Value.string (toB l)) ∧
    done.length ≤ k ∧ nl.length ≤ k ∧ done ++ glue nl (pieces (s.data.toList.drop k)) = pieces s.data.toList ∧ Below w.heap.size w wr
theorem drop_get {s : ByteArray} {k : Nat} (h : k < s.size) : s.data.toList.drop k = s[k] :: s.data.toList.drop (k + 1) := by
  rw [List.drop_eq_getElem_cons (by simpa using h)]; rfl
theorem one_byte {s : ByteArray} {k : Nat} (h : k < s.size) (nl : List UInt8) : toB nl ++ s.extract k (k + 1) = toB (nl ++ [s[k]]) := by
  have h1 : (s.extract k (k + 1)).data.toList = [s[k]] := by
    rw [Lib.extract_data]
    have h2 := drop_get h
    simp only [Nat.add_sub_cancel_left] at *
    rw [h2]; rfl
  rw [← toB_of (s.extract k (k + 1)), h1]
  apply ByteArray.ext
  simp [toB]
theorem Strs.set2 {w : World} {B : Nat} {v : Value} {xs : List ByteArray} (h : Strs w B v xs) {p : Addr} (hp : ∀ g, v.ownBlock = some g → g ≠ p.block) (u : Value) : Strs (w.setCell p u) B v xs := by
  obtain ⟨a, c, hv, hc, hl, hs, hx⟩ := h
  refine ⟨a, c, hv, hc, hl, hs, fun h0 => ?_⟩
  obtain ⟨b, o, ha, hB, hj⟩ := hx h0
  subst ha; subst hv
  exact ⟨_, _, rfl, hB, fun j hjl => (World.cell?_setCell_other w p _ u (fun e => hp b rfl (by rw [e]))).trans (hj j hjl)⟩
theorem strs_own {w : World} {base : Nat} {t : TypeId} {v : Value} {n : Nat} {xs : List ByteArray} (h : w.ownsRow base t 1 v n (xs.map Value.string)) (hl : xs.length ≤ 35184372088832) (hs : ∀ x ∈ xs, x.size ≤ maxLen) : Strs w w.heap.size v xs := by
  have hn : xs.length = n := by have := h.1; simpa using this
  subst hn
  have h0 := h
  rcases h0.2 with ⟨rfl, he⟩ | ⟨g, cap, cur, rfl, _, _, hcap, _⟩
  · refine ⟨none, 0, by rw [he], by omega, hl, hs, fun hp => ?_⟩
    omega
  · refine ⟨_, _, rfl, hcap, hl, hs, fun hp => ⟨g, 0, rfl, (h.lt g rfl).2, fun j hj => ?_⟩⟩
    rw [Nat.zero_add, h.cellAt j (by omega), List.getD_eq_getElem?_getD, List.getElem?_map, List.getElem?_eq_getElem hj]
    rfl

set_option maxHeartbeats 800000 in
theorem splitAt_any (s : ByteArray) (w : World) (hs : s.size ≤ 100) :
    Calls Tryz.prog 137 #[.string s, .int .u8 47] w fun e w' =>
      ∃ v, e = .returned v ∧ Strs w' w'.heap.size v (comps s.data.toList) ∧ Below w.heap.size w w' ∧ (∀ g, v.ownBlock = some g → w.heap.size ≤ g) := by
  obtain ⟨i0, hi, hz0, hz1, hz2⟩ := info_parts info9
  go_enter Tryz.func137, Tryz.ntmps137
  go_wp2
  go_loopw [5, 6, 7] (fun out now i wr => ∃ k : Nat, k ≤ s.size ∧ i = .int .i64 k ∧ Scan s w k out now wr) (fun _ _ i _ => s.size - (intOf i).toNat)
  case atStart => exact ⟨0, Nat.zero_le _, rfl, [], [], rfl, ⟨rfl, .inl ⟨rfl, rfl⟩⟩, Nat.le_refl _, Nat.le_refl _, by simp [glue_nil], Below.refl _ _⟩
  case round =>
    obtain ⟨k, hk, rfl, hscan⟩ := hrel
    by_cases hlt : k < s.size
    · have hltz : (k : Int) < (s.size : Int) := by omega
      obtain ⟨done, nl, rfl, hown, hd, hn, hp, hb⟩ := hscan
      rw [drop_get hlt] at hp
      have hnl : (toB nl).size = nl.length := by simp [toB, ByteArray.size]
      by_cases hc : s[k] = 47
      · have hcb : ((s[k].toNat : Int) == 47) = true := by rw [hc]; rfl
        rw [hc, glue_slash] at hp
        have HP := Lib.hid hp
        have HB := Lib.hid hb
        have hb1 := hb.size
        have HG := Lib.hid hown.lt
        clear hp hb hc
        go_wp2_with (at_builtin; refine wpList_append_own _ rfl _ _ 31 rfl w.heap.size 9 i0 (.string ByteArray.empty) 1 16 Tryz.underlying31 hi hz0 hz1 hz2 rfl (by decide) _ _ _ rfl (hown.alloc _) ⟨wr.heap.size, 0, none⟩ 1 1 [.string (toB nl)] rfl rfl ?c1 ?c2 ?c3 ?c4 ?c5 ?_)
        case c1 => exact cell_one_new _ _ _
        case c2 => simp [Value.oneCell']
        case c3 => unfold maxLen; omega
        case c4 => omega
        case c5 => simp; omega
        intro v' w1 hown1 hgrow1 _
        have HO := Lib.hid hown1
        clear hown hown1
        go_wp2
        go_roundw
        case rel =>
          refine ⟨k + 1, by omega, by go_num, done ++ [nl], [], rfl, ?_, by simp; omega, by simp, ?_, ?_⟩
          · simpa using HO.out
          · rw [glue_nil, List.append_assoc]; exact HP.out
          · exact (HB.out.alloc hb1 _).grown hgrow1 (by simp; omega) (fun g hg => (HG.out g hg).1)
        case measure => simp [intOf]; omega
      · have hcb : ((s[k].toNat : Int) == 47) = false := by
          rw [beq_eq_false_iff_ne]; intro h; apply hc
          have : s[k].toNat = 47 := by omega
          exact UInt8.toNat_inj.1 this
        rw [glue_other _ _ hc] at hp
        have HP := Lib.hid hp
        have HB := Lib.hid hb
        have HO := Lib.hid hown
        clear hp hb hc hown
        go_wp2
        go_roundw
        case rel =>
          exact ⟨k + 1, by omega, by go_num, done, nl ++ [s[k]], by rw [one_byte hlt], HO.out, by omega, by simp; omega, HP.out, HB.out⟩
        case measure => simp [intOf]; omega
    · have hltz : ¬ (k : Int) < (s.size : Int) := by omega
      obtain ⟨done, nl, rfl, hown, hd, hn, hp, hb⟩ := hscan
      have hnl : (toB nl).size = nl.length := by simp [toB, ByteArray.size]
      have hdrop : s.data.toList.drop k = [] := by rw [List.drop_eq_nil_iff]; simp; omega
      rw [hdrop, glue_end] at hp
      have HP := Lib.hid hp
      have HB := Lib.hid hb
      have hb1 := hb.size
      have HG := Lib.hid hown.lt
      clear hp hb hdrop
      go_wp2_with (at_builtin; refine wpList_append_own _ rfl _ _ 31 rfl w.heap.size 9 i0 (.string ByteArray.empty) 1 16 Tryz.underlying31 hi hz0 hz1 hz2 rfl (by decide) _ _ _ rfl (hown.alloc _) ⟨wr.heap.size, 0, none⟩ 1 1 [.string (toB nl)] rfl rfl ?d1 ?d2 ?d3 ?d4 ?d5 ?_)
      case d2 => simp [Value.oneCell']
      case d3 => unfold maxLen; omega
      case d4 => omega
      case d5 => omega
      intro v' w1 hown1 hgrow1 _
      have HO := Lib.hid hown1
      have HOL := Lib.hid hown1.lt
      clear hown hown1
      go_wp2
      go_ret
      have hcomps : comps s.data.toList = (done ++ [nl]).map toB := by unfold comps; rw [← HP.out]
      refine ⟨_, rfl, ?_, (HB.out.alloc hb1 _).grown hgrow1 (by simp; omega) (fun g hg => (HG.out g hg).1), fun g hg => (HOL.out g hg).1⟩
      refine strs_own (base := w.heap.size) (t := 9) (n := done.length + 1) ?_ ?_ ?_
      · have h := HO.out
        rw [hcomps]
        simpa [Function.comp_def] using h
      · have := comps_len_le s.data.toList
        have h3 : s.data.toList.length = s.size := by simp
        omega
      · intro x hx
        have := comps_size hx
        have h3 : s.data.toList.length = s.size := by simp
        unfold maxLen; omega

set_option maxHeartbeats 400000 in
theorem refSplit_long (p : ByteArray) (w : World) (hp : p.size ≤ maxLen) (hl : 100 < p.size) :
    Calls Tryz.prog 77 #[.string p] w (SplitPost p w) := by
  unfold maxLen at hp
  have HF := Lib.hid (show splitF p = (2, 0) by unfold splitF; rw [if_pos hl])
  have hl2 : (100 : Int) < (p.size : Int) := by omega
  go_enter Tryz.func77, Tryz.ntmps77
  go_wp2_with fail
  refine (newFault_any _ _ _).mono ?_
  rintro e w' ⟨rfl, hb'⟩
  have hlt' : w.heap.size < w'.heap.size := by have := hb'.size; simp at this; omega
  obtain ⟨_, g0, g1, f0, f1⟩ := (FBox.new w 0 0 37).below hb' (by simp)
  have hB : Below w.heap.size w w' := ((Below.refl _ _).alloc (Nat.le_refl _) _).trans (hb'.mono (by simp))
  clear hb'
  go_wp2
  refine bodyPost_ret (v := .tuple #[.slice none 0 0, .agg #[.int .i64 2, .int .i64 0]]) ?_ rfl (splitPost_fault HF.out (by decide) ?_)
  · simp [results, Tryz.results77, go_sem, g0, g1]
  · repeat (first | exact hB | refine Below.setCell ?_ (by simp) _ | refine Below.alloc ?_ (by simp; omega) _ | refine Below.drew ?_)

theorem splitF_bare {p : ByteArray} (hl : ¬ 100 < p.size) (hr : ∀ r, p.data.toList ≠ 47 :: r) : splitF p = (5, 0) := by
  unfold splitF; rw [if_neg hl]
  cases hd : p.data.toList with
  | nil => rfl
  | cons c r =>
    have : c ≠ 47 := fun e => hr r (by rw [hd, e])
    simp only [if_neg this]

set_option maxHeartbeats 400000 in
theorem refSplit_bare (p : ByteArray) (w : World) (hp : p.size ≤ maxLen) (hl : ¬ 100 < p.size) (hr : ∀ r, p.data.toList ≠ 47 :: r) :
    Calls Tryz.prog 77 #[.string p] w (SplitPost p w) := by
  unfold maxLen at hp
  have HF := Lib.hid (splitF_bare hl hr)
  have hl2 : ¬ (100 : Int) < (p.size : Int) := by omega
  by_cases h0 : p.size = 0
  · have hz : ((p.size : Int) == 0) = true := by rw [h0]; rfl
    clear hr h0
    go_enter Tryz.func77, Tryz.ntmps77
    go_wp2_with fail
    refine (newFault_any _ _ _).mono ?_
    rintro e w' ⟨rfl, hb'⟩
    have hlt' : w.heap.size < w'.heap.size := by have := hb'.size; simp at this; omega
    obtain ⟨_, g0, g1, f0, f1⟩ := (FBox.new w 0 0 37).below hb' (by simp)
    have hB : Below w.heap.size w w' := ((Below.refl _ _).alloc (Nat.le_refl _) _).trans (hb'.mono (by simp))
    clear hb'
    go_wp2
    refine bodyPost_ret (v := .tuple #[.slice none 0 0, .agg #[.int .i64 5, .int .i64 0]]) ?_ rfl (splitPost_fault HF.out (by decide) ?_)
    · simp [results, Tryz.results77, go_sem, g0, g1]
    · repeat (first | exact hB | refine Below.setCell ?_ (by simp) _ | refine Below.alloc ?_ (by simp; omega) _ | refine Below.drew ?_)
  · have hz : ((p.size : Int) == 0) = false := by rw [beq_eq_false_iff_ne]; omega
    have hpos : 0 < p.size := by omega
    have hc : ((p[0].toNat : Int) == 47) = false := by
      rw [beq_eq_false_iff_ne]; intro h
      have h1 : p[0] = 47 := UInt8.toNat_inj.1 (by have : p[0].toNat = 47 := by omega
                                                   rw [this]; rfl)
      have h2 := drop_get hpos
      rw [List.drop_zero, h1] at h2
      exact hr _ h2
    have hc2 : ((p[0].toNat : Int) != 47) = true := by rw [bne, hc]; rfl
    clear hr h0
    go_enter Tryz.func77, Tryz.ntmps77
    go_wp2_with fail
    refine (newFault_any _ _ _).mono ?_
    rintro e w' ⟨rfl, hb'⟩
    have hlt' : w.heap.size < w'.heap.size := by have := hb'.size; simp at this; omega
    obtain ⟨_, g0, g1, f0, f1⟩ := (FBox.new w 0 0 37).below hb' (by simp)
    have hB : Below w.heap.size w w' := ((Below.refl _ _).alloc (Nat.le_refl _) _).trans (hb'.mono (by simp))
    clear hb'
    go_wp2
    refine bodyPost_ret (v := .tuple #[.slice none 0 0, .agg #[.int .i64 5, .int .i64 0]]) ?_ rfl (splitPost_fault HF.out (by decide) ?_)
    · simp [results, Tryz.results77, go_sem, g0, g1]
    · repeat (first | exact hB | refine Below.setCell ?_ (by simp) _ | refine Below.alloc ?_ (by simp; omega) _ | refine Below.drew ?_)

set_option maxHeartbeats 400000 in
theorem refSplit_root (p : ByteArray) (w : World) (_hp : p.size ≤ maxLen) (hl : ¬ 100 < p.size) (hr : p.data.toList = [47]) :
    Calls Tryz.prog 77 #[.string p] w (SplitPost p w) := by
  unfold maxLen at _hp
  have HF := Lib.hid (show splitF p = (0, 0) ∧ splitL p = [] by
    have : splitF p = (0, 0) := by unfold splitF; rw [if_neg hl, hr]; rfl
    refine ⟨this, ?_⟩
    unfold splitL; rw [this, hr]; rfl)
  have hsz : p.size = 1 := by
    have h1 : p.data.toList.length = p.size := by simp
    rw [hr] at h1; simpa using h1.symm
  have hl2 : ¬ (100 : Int) < (p.size : Int) := by omega
  have hz : ((p.size : Int) == 0) = false := by rw [hsz]; rfl
  have hpos : 0 < p.size := by omega
  have hb0 : p[0] = 47 := by
    have h2 := drop_get hpos
    rw [List.drop_zero, hr] at h2
    injection h2 with h2; exact h2.symm
  have hc : ((p[0].toNat : Int) == 47) = true := by rw [hb0]; rfl
  have hc2 : ((p[0].toNat : Int) != 47) = false := by rw [bne, hc]; rfl
  have hq : (p.toList == [47]) = true := by rw [Lib.toList_data, hr]; rfl
  clear hr hb0 hsz
  go_enter Tryz.func77, Tryz.ntmps77
  go_wp2
  refine bodyPost_ret (v := .tuple #[.slice none 0 0, .agg #[.int .i64 0, .int .i64 0]]) ?_ rfl ⟨.slice none 0 0, by rw [HF.out.1], ?_, ?_, fun g hg => by cases hg⟩
  · simp [results, Tryz.results77, go_sem]
  · rw [HF.out.2]; exact ⟨none, 0, rfl, by simp, by simp, by simp, fun h => absurd h (by simp)⟩
  · repeat (first | exact Below.refl _ _ | refine Below.setCell ?_ (by simp) _ | refine Below.alloc ?_ (by simp) _ | refine Below.drew ?_)

set_option maxHeartbeats 1000000 in
theorem refSplit_comps (p : ByteArray) (r : List UInt8) (w : World) (hp : p.size ≤ maxLen) (hl : ¬ 100 < p.size) (hr : p.data.toList = 47 :: r) (hne : r ≠ []) :
    Calls Tryz.prog 77 #[.string p] w (SplitPost p w) := by
  unfold maxLen at hp
  have HF := Lib.hid (show splitF p = compFault (comps r) by unfold splitF; rw [if_neg hl, hr]; simp only [if_true, if_neg hne])
  have HL := Lib.hid (show (compFault (comps r)).1 = 0 → splitL p = comps r by
    intro h; unfold splitL; rw [HF.out, if_pos h, hr]; simp only [if_neg hne])
  have hsz : p.size = r.length + 1 := by
    have h1 : p.data.toList.length = p.size := by simp
    rw [hr] at h1; simpa using h1.symm
  have hl2 : ¬ (100 : Int) < (p.size : Int) := by omega
  have hz : ((p.size : Int) == 0) = false := by rw [beq_eq_false_iff_ne]; omega
  have hpos : 0 < p.size := by omega
  have hb0 : p[0] = 47 := by
    have h2 := drop_get hpos
    rw [List.drop_zero, hr] at h2
    injection h2 with h2; exact h2.symm
  have hc : ((p[0].toNat : Int) == 47) = true := by rw [hb0]; rfl
  have hc2 : ((p[0].toNat : Int) != 47) = false := by rw [bne, hc]; rfl
  have hq : (p.toList == [47]) = false := by
    rw [Lib.toList_data, hr, beq_eq_false_iff_ne]
    intro h; injection h with _ h; exact hne h
  have hdat : (p.extract 1 p.size).data.toList = r := by
    rw [Lib.extract_to_end, hr]; rfl
  have hS := fun W => splitAt_any (p.extract 1 p.size) W (by
    have h1 : (p.extract 1 p.size).data.toList.length = (p.extract 1 p.size).size := by simp
    rw [hdat] at h1; omega)
  rw [hdat] at hS
  have HS := Lib.hid hS
  have hp1 : 1 ≤ p.size := hpos
  clear hr hne hS hdat hb0 hsz
  go_enter Tryz.func77, Tryz.ntmps77
  go_wp2_with fail
  refine (HS.out _).mono ?_
  rintro e w1 ⟨v, rfl, hS1, b1, hvb⟩
  have HVB := Lib.hid hvb
  clear hvb
  have X1 := Lib.hid ((FBox.new w 0 0 37).below b1 (by simp))
  have hgt : w.heap.size < w1.heap.size := X1.out.lt
  have B1 : Below w.heap.size w w1 := ((Below.refl _ _).alloc (Nat.le_refl _) _).trans (b1.mono (by simp))
  clear b1
  generalize comps r = xs at *
  have H1 := Lib.hid hS1
  obtain ⟨a, c, rfl, hcap, hxl, hs, hx⟩ := hS1
  go_wp2
  go_loop [5] (fun i => ∃ k : Nat, k ≤ xs.length ∧ i = .int .i64 k ∧ Aside (∀ j, j < k → vname (xs.getD j ByteArray.empty) = true)) (fun i => xs.length - (intOf i).toNat)
  case atStart => exact ⟨0, Nat.zero_le _, rfl, fun j hj => absurd hj (Nat.not_lt_zero _)⟩
  case round =>
    obtain ⟨k, hk, rfl, A⟩ := hrel
    by_cases hlt : k < xs.length
    · obtain ⟨b, o, rfl, hb, hj⟩ := hx (by omega)
      have hcell : w1.cell? ⟨b, o + k, none⟩ = some (.string (xs.getD k ByteArray.empty)) := hj k hlt
      have hys : (xs.getD k ByteArray.empty).size ≤ maxLen := by
        rw [getD_eq hlt]; exact hs _ (List.getElem_mem hlt)
      clear hx hs hj
      generalize hy : xs.getD k ByteArray.empty = y at hcell hys
      have B : Aside (xs.getD k ByteArray.empty = y) := hy
      clear hy
      have hcall := fun W => validName_any y W hys
      clear hys
      cases hqv : vname y with
      | false =>
        rw [hqv] at hcall
        have Q : Aside (vname y = false) := hqv
        clear hqv
        go_wp2_with fail
        refine (hcall _).mono ?_
        rintro e w' ⟨rfl, rfl⟩
        go_wp2_with fail
        refine (newFault_any _ _ _).mono ?_
        rintro e w2 ⟨rfl, b2⟩
        obtain ⟨l2, g0, g1, f0, f1⟩ := X1.out.below b2 hgt
        have B2 : Below w.heap.size w w2 := B1.trans (b2.mono B1.size)
        clear b2
        go_wp2
        refine bodyPost_ret (v := .tuple #[.slice none 0 0, .agg #[.int .i64 12, .int .i64 k]]) ?_ rfl (splitPost_fault (HF.out.trans (compFault_bad hlt (by rw [B.out]; exact Q.out) A.out)) (by decide) ?_)
        · simp [results, Tryz.results77, go_sem, g0, g1]
        · repeat (first | exact B2 | refine Below.setCell ?_ (by simp) _ | refine Below.alloc ?_ (by simp; omega) _ | refine Below.drew ?_)
      | true =>
        rw [hqv] at hcall
        have Q : Aside (vname y = true) := hqv
        clear hqv
        go_wp2_with fail
        refine (hcall _).mono ?_
        rintro e w' ⟨rfl, rfl⟩
        go_wp2
        go_round
        case rel =>
          refine ⟨k + 1, by omega, by go_num, fun j hjk => ?_⟩
          by_cases e : j = k
          · subst e; rw [B.out]; exact Q.out
          · exact A.out j (by omega)
        case measure => simp [intOf]; omega
    · have hltz : ¬ (k : Int) < (xs.length : Int) := by omega
      have e : k = xs.length := by omega
      have A' : Aside (∀ j, j < xs.length → vname (xs.getD j ByteArray.empty) = true) := by rw [← e]; exact A
      clear A e hx hs
      by_cases h8 : 8 < xs.length
      · go_wp2_with fail
        refine (newFault_any _ _ _).mono ?_
        rintro e w2 ⟨rfl, b2⟩
        obtain ⟨l2, g0, g1, f0, f1⟩ := X1.out.below b2 hgt
        have B2 : Below w.heap.size w w2 := B1.trans (b2.mono B1.size)
        clear b2
        go_wp2
        refine bodyPost_ret (v := .tuple #[.slice none 0 0, .agg #[.int .i64 10, .int .i64 0]]) ?_ rfl (splitPost_fault (HF.out.trans (compFault_deep h8 A'.out)) (by decide) ?_)
        · simp [results, Tryz.results77, go_sem, g0, g1]
        · repeat (first | exact B2 | refine Below.setCell ?_ (by simp) _ | refine Below.alloc ?_ (by simp; omega) _ | refine Below.drew ?_)
      · have CF := Lib.hid (compFault_fine h8 A'.out)
        obtain ⟨l2, g0, g1, f0, f1⟩ := X1.out
        go_wp2
        refine bodyPost_ret (v := .tuple #[.slice a xs.length c, .agg #[.int .i64 0, .int .i64 0]]) ?_ rfl ⟨_, by rw [HF.out, CF.out], ?_, ?_, fun g hg => by have := HVB.out g hg; simp at this; omega⟩
        · simp [results, Tryz.results77, go_sem, g0, g1]
        · rw [HL.out (by rw [CF.out])]
          have hne : ∀ g, (Value.slice a xs.length c).ownBlock = some g → g ≠ w.heap.size := fun g hg => by
            have := HVB.out g hg
            simp at this; omega
          have h1 := (H1.out.set2 (p := ⟨w.heap.size, 0, none⟩) hne (.int .i64 0)).set2 (p := ⟨w.heap.size, 1, none⟩) hne (.int .i64 0)
          refine h1.more ?_
          simp
        · repeat (first | exact B1 | refine Below.setCell ?_ (by simp) _ | refine Below.alloc ?_ (by simp; omega) _ | refine Below.drew ?_)

theorem refSplit_any (p : ByteArray) (w : World) (hp : p.size ≤ maxLen) :
    Calls Tryz.prog 77 #[.string p] w (SplitPost p w) := by
  by_cases hl : 100 < p.size
  · exact refSplit_long p w hp hl
  · cases hd : p.data.toList with
    | nil => exact refSplit_bare p w hp hl (fun r h => by rw [hd] at h; cases h)
    | cons c r =>
      by_cases hc : c = 47
      · subst hc
        by_cases hr : r = []
        · subst hr; exact refSplit_root p w hp hl hd
        · exact refSplit_comps p r w hp hl hd hr
      · exact refSplit_bare p w hp hl (fun r' h => by rw [hd] at h; injection h with h; exact hc h)

end Go.Proofs.YtmbbmmnpkdfecaaGreatDoor

/- Plain facts on setting an attribute in a sorted list: the list in three parts, and the reference's way, attribute by attribute. No program. -/

set_option linter.all false
namespace Go.Proofs.YtmbbmmnpkdfecaaGreatDoor
open Go.RowKit

/-- The list with the attribute a, or without it if its value is empty. -/
def setL (xs : List Attr) (a : Attr) : List Attr := xs.filter (fun x => ltS x.n a.n) ++ presA a ++ xs.filter (fun x => ltS a.n x.n)

theorem filter_split (p : Attr → Bool) : ∀ (l : List Attr) (i : Nat), (∀ j, j < i → j < l.length → p (l.getD j A0) = true) → (∀ j, i ≤ j → j < l.length → p (l.getD j A0) = false) → l.filter p = l.take i
  | [], _, _, _ => by simp
  | a :: r, 0, _, h2 => by
    have ha : p a = false := by simpa using h2 0 (Nat.le_refl _) (by simp)
    have := filter_split p r 0 (fun j hj => absurd hj (Nat.not_lt_zero _)) (fun j _ hj => by simpa using h2 (j + 1) (Nat.zero_le _) (by simpa using hj))
    simp [ha] at this ⊢; exact this
  | a :: r, i + 1, h1, h2 => by
    have ha : p a = true := by simpa using h1 0 (Nat.succ_pos _) (by simp)
    have := filter_split p r i (fun j hj hl => by simpa using h1 (j + 1) (by omega) (by simpa using hl)) (fun j hij hj => by simpa using h2 (j + 1) (by omega) (by simpa using hj))
    simp [ha, this]
theorem filter_drop (p : Attr → Bool) : ∀ (l : List Attr) (i : Nat), (∀ j, j < i → j < l.length → p (l.getD j A0) = false) → (∀ j, i ≤ j → j < l.length → p (l.getD j A0) = true) → l.filter p = l.drop i
  | [], _, _, _ => by simp
  | a :: r, 0, _, h2 => by
    have ha : p a = true := by simpa using h2 0 (Nat.le_refl _) (by simp)
    have := filter_drop p r 0 (fun j hj => absurd hj (Nat.not_lt_zero _)) (fun j _ hj => by simpa using h2 (j + 1) (Nat.zero_le _) (by simpa using hj))
    simp [ha] at this ⊢; exact this
  | a :: r, i + 1, h1, h2 => by
    have ha : p a = false := by simpa using h1 0 (Nat.succ_pos _) (by simp)
    have := filter_drop p r i (fun j hj hl => by simpa using h1 (j + 1) (by omega) (by simpa using hl)) (fun j hij hj => by simpa using h2 (j + 1) (by omega) (by simpa using hj))
    simp [ha, this]
theorem filter_lo {xs : List Attr} (h : Srt xs) (nm : ByteArray) : xs.filter (fun x => ltS x.n nm) = xs.take (lowB xs nm) :=
  filter_split _ xs _ (fun j hj _ => (lowB_lo h nm).1 j hj) (fun j h1 h2 => (lowB_lo h nm).2 j h1 h2)
theorem filter_hi {xs : List Attr} (h : Srt xs) (nm : ByteArray) : xs.filter (fun x => ltS nm x.n) = xs.drop (if fnd xs nm = true then lowB xs nm + 1 else lowB xs nm) := by
  obtain ⟨l1, l2⟩ := lowB_lo h nm
  cases hf : fnd xs nm with
  | true =>
    obtain ⟨f1, f2⟩ := fnd_iff.1 hf
    rw [if_pos rfl]
    refine filter_drop _ xs _ (fun j hj hl => ?_) (fun j hj hl => ?_)
    · by_cases e : j = lowB xs nm
      · subst e; rw [f2]; exact ltS_irrefl _
      · exact ltS_asymm (l1 j (by omega))
    · have := srt_at h (i := lowB xs nm) (j := j) (by omega) hl
      rwa [f2] at this
  | false =>
    rw [if_neg (by simp)]
    refine filter_drop _ xs _ (fun j hj hl => ltS_asymm (l1 j hj)) (fun j hj hl => ?_)
    refine ltS_of (l2 j hj hl) ?_
    intro e
    have hg : ¬ (lowB xs nm < xs.length ∧ (xs.getD (lowB xs nm) A0).n = nm) := fun h => by rw [fnd_iff.2 h] at hf; cases hf
    by_cases e2 : j = lowB xs nm
    · subst e2; exact hg ⟨hl, e⟩
    · have h3 := srt_at h (i := lowB xs nm) (j := j) (by omega) hl
      rw [e, l2 _ (Nat.le_refl _) (by omega)] at h3
      cases h3
/-- The three parts, as Set cuts them. -/
theorem setL_cut {xs : List Attr} (h : Srt xs) (a : Attr) : [xs.take (lowB xs a.n), presA a, xs.drop (if fnd xs a.n = true then lowB xs a.n + 1 else lowB xs a.n)].flatten = setL xs a := by
  unfold setL
  rw [filter_lo h, filter_hi h]
  simp

/-- A name that is not less than a's stands among the first k. -/
def geK (xs : List Attr) (a : Attr) (k : Nat) : Bool := (xs.take k).any (fun x => !ltS x.n a.n)
/-- What the reference has laid after k attributes. -/
def outK (xs : List Attr) (a : Attr) (k : Nat) : List Attr := (xs.take k).filter (fun x => ltS x.n a.n) ++ (if geK xs a k = true then presA a else []) ++ (xs.take k).filter (fun x => ltS a.n x.n)
theorem take_snoc {xs : List Attr} {k : Nat} (h : k < xs.length) : xs.take (k + 1) = xs.take k ++ [xs.getD k A0] := by
  rw [List.take_succ_eq_append_getElem h, atD h]
theorem geK_snoc {xs : List Attr} {a : Attr} {k : Nat} (h : k < xs.length) : geK xs a (k + 1) = (geK xs a k || !ltS (xs.getD k A0).n a.n) := by
  unfold geK; rw [take_snoc h, List.any_append]; simp
theorem geK_false {xs : List Attr} {a : Attr} {k : Nat} (h : geK xs a k = false) : ∀ x ∈ xs.take k, ltS x.n a.n = true := by
  intro x hx
  unfold geK at h
  rw [List.any_eq_false] at h
  have := h x hx
  simpa using this
theorem hi_nil {xs : List Attr} {a : Attr} {k : Nat} (h : geK xs a k = false) : (xs.take k).filter (fun x => ltS a.n x.n) = [] := by
  rw [List.filter_eq_nil_iff]
  intro x hx
  rw [ltS_asymm (geK_false h x hx)]; simp
theorem geK_of {xs : List Attr} (hs : Srt xs) {a : Attr} {k : Nat} (h : k < xs.length) (hl : ltS a.n (xs.getD k A0).n = false) : geK xs a k = false := by
  unfold geK
  rw [List.any_eq_false]
  intro x hx
  obtain ⟨j, hj, rfl⟩ := List.mem_iff_getElem.1 hx
  have hjk : j < k := by simp at hj; omega
  have e : (xs.take k)[j] = xs.getD j A0 := by rw [List.getElem_take, atD (by omega)]
  rw [e]
  have := ltS_le (srt_at hs hjk h) hl
  rw [this]; simp
theorem out_zero (xs : List Attr) (a : Attr) : outK xs a 0 = [] ∧ geK xs a 0 = false := by unfold outK geK; simp
theorem out_lt {xs : List Attr} (hs : Srt xs) {a x : Attr} {k : Nat} (h : k < xs.length) (hx : xs.getD k A0 = x) (hl : ltS x.n a.n = true) :
    geK xs a k = false ∧ geK xs a (k + 1) = false ∧ outK xs a (k + 1) = outK xs a k ++ [x] := by
  have h1 := geK_of hs (a := a) h (by rw [hx]; exact ltS_asymm hl)
  have h2 : geK xs a (k + 1) = false := by rw [geK_snoc h, h1, hx, hl]; rfl
  refine ⟨h1, h2, ?_⟩
  unfold outK
  rw [hi_nil h2, hi_nil h1, h1, h2, take_snoc h, hx, List.filter_append]
  simp [hl]
theorem out_eq {xs : List Attr} (hs : Srt xs) {a x : Attr} {k : Nat} (h : k < xs.length) (hx : xs.getD k A0 = x) (hl : x.n = a.n) :
    geK xs a k = false ∧ geK xs a (k + 1) = true ∧ outK xs a (k + 1) = outK xs a k ++ presA a := by
  have h1 := geK_of hs (a := a) h (by rw [hx, hl]; exact ltS_irrefl _)
  have h2 : geK xs a (k + 1) = true := by rw [geK_snoc h, hx, hl, ltS_irrefl]; simp
  refine ⟨h1, h2, ?_⟩
  unfold outK
  rw [hi_nil h1, h1, h2, take_snoc h, hx, List.filter_append, List.filter_append, hi_nil h1]
  simp [hl, ltS_irrefl]
theorem out_gt {xs : List Attr} {a x : Attr} {k : Nat} (h : k < xs.length) (hx : xs.getD k A0 = x) (hl : ltS a.n x.n = true) :
    geK xs a (k + 1) = true ∧ outK xs a (k + 1) = outK xs a k ++ (if geK xs a k = true then [] else presA a) ++ [x] := by
  have h2 : geK xs a (k + 1) = true := by rw [geK_snoc h, hx, ltS_asymm hl]; simp
  refine ⟨h2, ?_⟩
  unfold outK
  rw [h2, take_snoc h, hx, List.filter_append, List.filter_append]
  cases h1 : geK xs a k with
  | true => simp [hl, ltS_asymm hl]
  | false => rw [hi_nil h1]; simp [hl, ltS_asymm hl]
theorem out_end {xs : List Attr} {a : Attr} : (if geK xs a xs.length = true then outK xs a xs.length else outK xs a xs.length ++ presA a) = setL xs a := by
  unfold outK setL
  cases h1 : geK xs a xs.length with
  | true => simp
  | false =>
    have := hi_nil h1
    rw [List.take_length] at this ⊢
    rw [this]; simp
theorem presA_len (a : Attr) : (presA a).length ≤ 1 := by unfold presA; split <;> simp
theorem outK_len (xs : List Attr) (a : Attr) (k : Nat) : (outK xs a k).length ≤ 2 * xs.length + 1 := by
  unfold outK
  have h1 : ((xs.take k).filter (fun x => ltS x.n a.n)).length ≤ xs.length := Nat.le_trans (List.length_filter_le _ _) (by simp; omega)
  have h2 : ((xs.take k).filter (fun x => ltS a.n x.n)).length ≤ xs.length := Nat.le_trans (List.length_filter_le _ _) (by simp; omega)
  have h3 := presA_len a
  simp only [List.length_append]
  split <;> simp <;> omega
theorem setL_len (xs : List Attr) (a : Attr) : (setL xs a).length ≤ 2 * xs.length + 1 := by
  unfold setL
  have h1 : (xs.filter (fun x => ltS x.n a.n)).length ≤ xs.length := List.length_filter_le _ _
  have h2 : (xs.filter (fun x => ltS a.n x.n)).length ≤ xs.length := List.length_filter_le _ _
  have h3 := presA_len a
  simp only [List.length_append]
  omega
theorem presA_fits {a : Attr} (h : a.fits) : ∀ e ∈ presA a, e.fits := by
  intro e he; unfold presA at he; split at he
  · cases he
  · rw [List.mem_singleton.1 he]; exact h
theorem setL_fits {xs : List Attr} {a : Attr} (h : ∀ e ∈ xs, e.fits) (ha : a.fits) : ∀ e ∈ setL xs a, e.fits := by
  intro e he
  unfold setL at he
  rw [List.mem_append, List.mem_append] at he
  rcases he with (he | he) | he
  · exact h e (List.mem_filter.1 he).1
  · exact presA_fits ha e he
  · exact h e (List.mem_filter.1 he).1

end Go.Proofs.YtmbbmmnpkdfecaaGreatDoor

/- Equality of two slices of strings (the checker's and the library's), and the prefix test. Conditions: the slices' cells lie in memory as they read. -/

set_option linter.all false
namespace Go.Proofs.YtmbbmmnpkdfecaaGreatDoor
open Go.RowKit

theorem list_eq_getD {xs ys : List ByteArray} (hl : xs.length = ys.length) (h : ∀ j, j < xs.length → xs.getD j ByteArray.empty = ys.getD j ByteArray.empty) : xs = ys := by
  apply List.ext_getElem hl
  intro j h1 h2
  have := h j h1
  rwa [getD_eq h1, getD_eq h2] at this
theorem list_ne_getD {xs ys : List ByteArray} (k : Nat) (h : xs.getD k ByteArray.empty ≠ ys.getD k ByteArray.empty) : xs ≠ ys := fun e => h (by rw [e])

set_option maxHeartbeats 800000 in
theorem strings_any (v1 v2 : Value) (xs ys : List ByteArray) (w : World) (h1 : Strs w w.heap.size v1 xs) (h2 : Strs w w.heap.size v2 ys) :
    Calls Tryz.prog 47 #[v1, v2] w fun e w' => e = .returned (.bool (decide (xs = ys))) ∧ Below w.heap.size w w' := by
  obtain ⟨a1, c1, rfl, _, hl1, _, hx1⟩ := h1
  obtain ⟨a2, c2, rfl, _, hl2, _, hx2⟩ := h2
  by_cases hnm : xs.length = ys.length
  · have hnm1 : ((xs.length : Int) != (ys.length : Int)) = false := by rw [hnm]; simp
    have HN := Lib.hid hnm
    clear hnm
    go_enter Tryz.func47, Tryz.ntmps47
    go_wp2
    go_outline
    go_loopg [5] xs.length (fun g i wr => ∃ k q : Nat, k ≤ xs.length ∧ xs.length - k ≤ g ∧ i = .int .i64 k ∧ wr = w.drewN q ∧ Aside (∀ j, j < k → xs.getD j ByteArray.empty = ys.getD j ByteArray.empty))
    case atStart => exact ⟨0, 0, Nat.zero_le _, by omega, rfl, rfl, fun j hj => absurd hj (Nat.not_lt_zero _)⟩
    case round =>
      obtain ⟨k, q, hk, hg, rfl, rfl, A⟩ := hrel
      by_cases hlt : k < xs.length
      · have hltz : (k : Int) < (xs.length : Int) := by omega
        have hlt2 : k < ys.length := by have := HN.out; omega
        obtain ⟨b1, o1, rfl, hb1, hj1⟩ := hx1 (by omega)
        obtain ⟨b2, o2, rfl, hb2, hj2⟩ := hx2 (by omega)
        have g1 : w.cell? ⟨b1, o1 + k, none⟩ = some (.string (xs.getD k ByteArray.empty)) := hj1 k hlt
        have g2 : w.cell? ⟨b2, o2 + k, none⟩ = some (.string (ys.getD k ByteArray.empty)) := hj2 k hlt2
        clear hx1 hx2 hj1 hj2
        generalize hxk : xs.getD k ByteArray.empty = x at g1
        generalize hyk : ys.getD k ByteArray.empty = y at g2
        have B : Aside (xs.getD k ByteArray.empty = x ∧ ys.getD k ByteArray.empty = y) := ⟨hxk, hyk⟩
        clear hxk hyk
        by_cases hxy : x = y
        · subst hxy
          go_wp2_with fail
          go_region
          go_wp2
          go_roundg (xs.length - (k + 1))
          case measure => omega
          case rel =>
            refine ⟨k + 1, q + 1, by omega, by omega, by go_num, rfl, (show Aside _ from fun j hj => ?_)⟩
            by_cases e : j = k
            · subst e
              rw [B.out.1, B.out.2]
            · exact A.out j (by omega)
        · have hxy' : (x.toList == y.toList) = false := (Lib.bytes_beq_false_iff _ _).2 hxy
          have hxy2 : (x.toList != y.toList) = true := by rw [bne, hxy']; rfl
          go_wp2_with fail
          go_region
          go_wp2
          go_ret
          refine ⟨ret_bool (decide_eq_false (list_ne_getD k (by rw [B.out.1, B.out.2]; exact hxy))).symm, ?_⟩
          exact below_drewN (Below.refl _ _) (q + 1)
      · have hltz : ¬ (k : Int) < (xs.length : Int) := by omega
        have e : k = xs.length := by omega
        have E := Lib.hid e
        clear e hx1 hx2
        go_wp2
        go_ret
        exact ⟨ret_bool (decide_eq_true (list_eq_getD HN.out fun j hj => A.out j (by have := E.out; omega))).symm, below_drewN (Below.refl _ _) q⟩
  · have hnm1 : ((xs.length : Int) != (ys.length : Int)) = true := by simp; omega
    have HN := Lib.hid hnm
    clear hx1 hx2 hnm
    go_enter Tryz.func47, Tryz.ntmps47
    go_wp2
    go_ret
    exact ⟨ret_bool (decide_eq_false (fun e => HN.out (by rw [e]))).symm, Below.refl _ _⟩

end Go.Proofs.YtmbbmmnpkdfecaaGreatDoor

/- path.Contains and the reference's HasPrefix, at every two strings resp. slices of strings. Conditions: those of path.Split. -/

set_option linter.all false
namespace Go.Proofs.YtmbbmmnpkdfecaaGreatDoor
open Go.RowKit

/-- Is xs a prefix of ys? -/
def pre (xs ys : List ByteArray) : Bool := decide (xs.length ≤ ys.length ∧ xs = ys.take xs.length)

theorem Strs.take {w : World} {B n c : Nat} {a : Option Addr} {ys : List ByteArray} (h : Strs w B (.slice a n c) ys) (k : Nat) (hk : k ≤ ys.length) : Strs w B (.slice a k c) (ys.take k) := by
  obtain ⟨a', c', hv, hc, hl, hs, hx⟩ := h
  injection hv with e1 e2 e3
  subst e1; subst e3
  have hlen : (ys.take k).length = k := by simp; omega
  refine ⟨a, c, by rw [hlen], by omega, by omega, fun x hx => hs x (List.mem_of_mem_take hx), fun h0 => ?_⟩
  obtain ⟨b, o, ha, hB, hj⟩ := hx (by omega)
  refine ⟨b, o, ha, hB, fun j hjk => ?_⟩
  rw [hj j (by omega), List.getD_eq_getElem?_getD, List.getD_eq_getElem?_getD, List.getElem?_take_of_lt (by omega)]

theorem sEqual_any (v1 v2 : Value) (xs ys : List ByteArray) (w : World) (h1 : Strs w w.heap.size v1 xs) (h2 : Strs w w.heap.size v2 ys) :
    Calls Tryz.prog 188 #[v1, v2] w fun e w' => e = .returned (.bool (decide (xs = ys))) ∧ Below w.heap.size w w' := by
  obtain ⟨a1, c1, rfl, _, hl1, _, hx1⟩ := h1
  obtain ⟨a2, c2, rfl, _, hl2, _, hx2⟩ := h2
  by_cases hnm : xs.length = ys.length
  · by_cases h0 : 0 < xs.length
    · obtain ⟨b1, o1, rfl, hb1, hj1⟩ := hx1 h0
      obtain ⟨b2, o2, rfl, hb2, hj2⟩ := hx2 (by omega)
      refine (Tryz.slices_Equal_string b1 o1 xs.length c1 b2 o2 ys.length c2 xs ys w (Nat.le_refl _) (Nat.le_refl _) (by omega) (by omega) hj1 hj2).mono fun e w' ⟨he, q, hw⟩ => ⟨?_, ?_⟩
      · rw [he, List.take_length, List.take_length]
      · rw [hw]; exact below_drewN (Below.refl _ _) q
    · have e1 : xs = [] := List.eq_nil_of_length_eq_zero (by omega)
      have e2 : ys = [] := List.eq_nil_of_length_eq_zero (by omega)
      subst e1; subst e2
      refine (Tryz.slices_Equal_string_empty a1 a2 c1 0 c2 w (by omega)).mono fun e w' ⟨he, hw⟩ => ⟨he, ?_⟩
      rw [hw]; exact Below.refl _ _
  · refine (Tryz.slices_Equal_string_lens a1 a2 xs.length c1 ys.length c2 w hnm).mono fun e w' ⟨he, hw⟩ => ⟨?_, ?_⟩
    · rw [he, decide_eq_false (fun e => hnm (by rw [e]))]
    · rw [hw]; exact Below.refl _ _

theorem compFault_bounds (xs : List ByteArray) : 0 ≤ (compFault xs).2 ∧ (compFault xs).2 ≤ xs.length := by
  unfold compFault
  split
  · simp; omega
  · split
    · simp
    · simp
theorem splitF_bounds (p : ByteArray) : 0 ≤ (splitF p).2 ∧ (splitF p).2 ≤ 101 := by
  unfold splitF
  split
  · simp
  · rename_i hl
    split
    · simp
    · rename_i c r hd
      split
      · split
        · simp
        · have h1 := compFault_bounds (comps r)
          have h2 := comps_len_le r
          have h3 : p.data.toList.length = p.size := by simp
          rw [hd] at h3; simp at h3
          omega
      · simp

theorem splitF_zero {p : ByteArray} (h : (splitF p).1 = 0) : (splitF p).2 = 0 := by
  unfold splitF at *
  split at h
  · cases h
  · rename_i hl
    rw [if_neg hl]
    split at h
    · cases h
    · rename_i c r hd
      split at h
      · rename_i hc
        rw [if_pos hc]
        split at h
        · rename_i hr; rw [if_pos hr]
        · rename_i hr; rw [if_neg hr]; exact (compFault_ok h).2.1
      · cases h

/-- What Contains answers. -/
def contF (a b : ByteArray) : Int × Int := if (splitF a).1 = 0 then (if (splitF b).1 = 0 then (0, 0) else ((splitF b).1, -1 - (splitF b).2)) else splitF a
def contB (a b : ByteArray) : Bool := decide ((splitF a).1 = 0 ∧ (splitF b).1 = 0) && pre (splitL a) (splitL b)
def contV (a b : ByteArray) : Value := .tuple #[.bool (contB a b), .agg #[.int .i64 (contF a b).1, .int .i64 (contF a b).2]]

set_option maxHeartbeats 400000 in
theorem contains_badA (a b : ByteArray) (w : World) (hg : GM w) (ha : a.size ≤ maxLen) (hbad : (splitF a).1 ≠ 0) :
    Calls Tryz.prog 166 #[.string a, .string b] w fun e w' => e = .returned (contV a b) ∧ Below w.heap.size w w' := by
  have HV := Lib.hid (show contV a b = .tuple #[.bool false, .agg #[.int .i64 (splitF a).1, .int .i64 (splitF a).2]] by
    unfold contV contF contB; rw [if_neg hbad, decide_eq_false (fun h => hbad h.1)]; rfl)
  have hcon := fun W (hb : Below w.heap.size w W) => pathSplit_any a W (hg.below hb) ha
  unfold SplitPost at hcon
  generalize (splitF a).1 = c at *
  generalize (splitF a).2 = i at *
  have hc1 : (c != 0) = true := by simpa using hbad
  have hc2 : (c == 0) = false := by simpa using hbad
  have HC := Lib.hid hcon
  clear hbad hcon
  go_enter Tryz.func166, Tryz.ntmps166
  go_wp2_with fail
  refine (HC.out _ ((Below.refl _ _).alloc (Nat.le_refl _) _)).mono ?_
  rintro e w1 ⟨v, rfl, hS, b1, _⟩
  obtain ⟨l1, g0, g1, f0, f1⟩ := (FBox.new w 0 0 37).below b1 (by simp)
  have B1 : Below w.heap.size w w1 := ((Below.refl _ _).alloc (Nat.le_refl _) _).trans (b1.mono (by simp))
  clear b1 hS
  go_wp2
  go_region
  go_wp2
  refine bodyPost_ret (v := .tuple #[.bool false, .agg #[.int .i64 c, .int .i64 i]]) ?_ rfl ⟨by rw [HV.out], ?_⟩
  · simp [results, Tryz.results166, go_sem, g0, g1, l1]
  · repeat (first | exact B1 | refine Below.setCell ?_ (by simp) _ | refine Below.alloc ?_ (by simp; omega) _ | refine Below.drew ?_)

set_option maxHeartbeats 800000 in
theorem contains_badB (a b : ByteArray) (w : World) (hg : GM w) (ha : a.size ≤ maxLen) (hb : b.size ≤ maxLen) (hok : (splitF a).1 = 0) (hbad : (splitF b).1 ≠ 0) :
    Calls Tryz.prog 166 #[.string a, .string b] w fun e w' => e = .returned (contV a b) ∧ Below w.heap.size w w' := by
  have HV := Lib.hid (show contV a b = .tuple #[.bool false, .agg #[.int .i64 (splitF b).1, .int .i64 (-1 - (splitF b).2)]] by
    unfold contV contF contB; rw [if_pos hok, if_neg hbad, decide_eq_false (fun h => hbad h.2)]; rfl)
  have hcon := fun W (hb : Below w.heap.size w W) => pathSplit_any a W (hg.below hb) ha
  have hcon2 := fun W (hb' : Below w.heap.size w W) => pathSplit_any b W (hg.below hb') hb
  have hib := splitF_bounds b
  unfold SplitPost at hcon hcon2
  rw [hok] at hcon
  generalize (splitF a).2 = i0 at *
  generalize (splitF b).1 = c at *
  generalize (splitF b).2 = i at *
  have hc1 : (c != 0) = true := by simpa using hbad
  have hc2 : (c == 0) = false := by simpa using hbad
  obtain ⟨hi1, hi2⟩ := hib
  have HC := Lib.hid hcon
  have HD := Lib.hid hcon2
  clear hbad hcon hcon2 hok
  go_enter Tryz.func166, Tryz.ntmps166
  go_wp2_with fail
  refine (HC.out _ ((Below.refl _ _).alloc (Nat.le_refl _) _)).mono ?_
  rintro e w1 ⟨v, rfl, hS, b1, _⟩
  have X1 := Lib.hid ((FBox.new w 0 0 37).below b1 (by simp))
  have B1 : Below w.heap.size w w1 := ((Below.refl _ _).alloc (Nat.le_refl _) _).trans (b1.mono (by simp))
  have hz1 := b1.size
  clear b1 hS
  go_wp2_with fail
  refine (HD.out _ (B1.alloc B1.size _)).mono ?_
  rintro e w2 ⟨v2, rfl, hS, b2, _⟩
  obtain ⟨l1, g0, g1, f0, f1⟩ := (X1.out.alloc _).below b2 (by have := X1.out.lt; simp; omega)
  obtain ⟨l2, k0, k1, e0, e1⟩ := (FBox.new w1 0 i0 37).below b2 (by simp)
  have B2 : Below w.heap.size w w2 := (B1.alloc B1.size _).trans (b2.mono (by have := B1.size; simp; omega))
  have hz : w.heap.size < w1.heap.size := X1.out.lt
  have hzn : ¬ w.heap.size = w1.heap.size := by omega
  have hzn2 : ¬ w1.heap.size = w.heap.size := by omega
  clear b2 hS X1
  have hwrap : IntKind.i64.wrap (-1 - i) = -1 - i := IntWalk.i64_in _ (by omega)
  go_wp2
  go_region
  go_wp2
  refine bodyPost_ret (v := .tuple #[.bool false, .agg #[.int .i64 c, .int .i64 (-1 - i)]]) ?_ rfl ⟨by rw [HV.out], ?_⟩
  · simp [results, Tryz.results166, go_sem, g0, g1]
  · repeat (first | exact B2 | refine Below.setCell ?_ (by first | (simp; done) | (simp; omega)) _ | refine Below.alloc ?_ (by first | (simp; done) | (simp; omega)) _ | refine Below.drew ?_)

set_option maxHeartbeats 1000000 in
theorem contains_ok (a b : ByteArray) (w : World) (hg : GM w) (ha : a.size ≤ maxLen) (hb : b.size ≤ maxLen) (hok : (splitF a).1 = 0) (hok2 : (splitF b).1 = 0) :
    Calls Tryz.prog 166 #[.string a, .string b] w fun e w' => e = .returned (contV a b) ∧ Below w.heap.size w w' := by
  have HV := Lib.hid (show contV a b = .tuple #[.bool (pre (splitL a) (splitL b)), .agg #[.int .i64 0, .int .i64 0]] by
    unfold contV contF contB; rw [if_pos hok, if_pos hok2, decide_eq_true ⟨hok, hok2⟩, Bool.true_and])
  have hcon := fun W (hb : Below w.heap.size w W) => pathSplit_any a W (hg.below hb) ha
  have hcon2 := fun W (hb' : Below w.heap.size w W) => pathSplit_any b W (hg.below hb') hb
  unfold SplitPost at hcon hcon2
  rw [hok] at hcon
  rw [hok2] at hcon2
  generalize (splitF a).2 = i0 at *
  generalize (splitF b).2 = i at *
  generalize splitL a = xs at *
  generalize splitL b = ys at *
  have HC := Lib.hid hcon
  have HD := Lib.hid hcon2
  clear hcon hcon2 hok hok2
  go_enter Tryz.func166, Tryz.ntmps166
  go_wp2_with fail
  refine (HC.out _ ((Below.refl _ _).alloc (Nat.le_refl _) _)).mono ?_
  rintro e w1 ⟨v, rfl, hS1, b1, _⟩
  have X1 := Lib.hid ((FBox.new w 0 0 37).below b1 (by simp))
  have B1 : Below w.heap.size w w1 := ((Below.refl _ _).alloc (Nat.le_refl _) _).trans (b1.mono (by simp))
  have hz1 := b1.size
  have H1 := Lib.hid hS1
  clear b1 hS1
  go_wp2_with fail
  refine (HD.out _ (B1.alloc B1.size _)).mono ?_
  rintro e w2 ⟨v2, rfl, hS2, b2, hvb⟩
  have HVB := Lib.hid hvb
  clear hvb
  have X2 := Lib.hid ((X1.out.alloc _).below b2 (by have := X1.out.lt; simp; omega))
  have Y2 := Lib.hid ((FBox.new w1 0 i0 37).below b2 (by simp))
  have B2 : Below w.heap.size w w2 := (B1.alloc B1.size _).trans (b2.mono (by have := B1.size; simp; omega))
  have H1' := Lib.hid ((H1.out.alloc (Nat.le_refl _) _).below (b2.mono (by simp)))
  have H2 := Lib.hid hS2
  have hz : w.heap.size < w1.heap.size := X1.out.lt
  have hz2 : w1.heap.size < w2.heap.size := Y2.out.lt
  obtain ⟨a1, c1, rfl, _, hxl, _, _⟩ := H1'.out
  obtain ⟨a2, c2, rfl, hcap2, hyl, _, _⟩ := hS2
  clear b2 X1 H1
  obtain ⟨l1, g0, g1, f0, f1⟩ := X2.out
  obtain ⟨l2, k0, k1, e0, e1⟩ := Y2.out
  have hzn : ¬ w.heap.size = w1.heap.size := by omega
  have hzn2 : ¬ w1.heap.size = w.heap.size := by omega
  by_cases hle : xs.length ≤ ys.length
  · have hlez : (xs.length : Int) ≤ (ys.length : Int) := by omega
    have hlc : xs.length ≤ c2 := by omega
    have HP := Lib.hid (show pre xs ys = decide (xs = ys.take xs.length) by
      unfold pre; rw [Bool.eq_iff_iff]; simp [hle])
    go_wp2_with fail
    have HA := ((H1'.out.below ((Below.refl _ _).setCell (p := ⟨w1.heap.size, 0, none⟩) (Nat.le_refl _) (.int .i64 0))).below ((Below.refl _ _).setCell (p := ⟨w1.heap.size, 1, none⟩) (Nat.le_refl _) (.int .i64 i))).more (B' := ((w2.setCell ⟨w1.heap.size, 0, none⟩ (.int .i64 0)).setCell ⟨w1.heap.size, 1, none⟩ (.int .i64 i)).heap.size) (by simp; omega)
    have hne : ∀ g, (Value.slice a2 ys.length c2).ownBlock = some g → g ≠ w1.heap.size := fun g hg => by
      have := HVB.out g hg
      simp at this; omega
    have HB := (((H2.out.set2 (p := ⟨w1.heap.size, 0, none⟩) hne (.int .i64 0)).set2 (p := ⟨w1.heap.size, 1, none⟩) hne (.int .i64 i)).take xs.length hle).more (B' := ((w2.setCell ⟨w1.heap.size, 0, none⟩ (.int .i64 0)).setCell ⟨w1.heap.size, 1, none⟩ (.int .i64 i)).heap.size) (by simp)
    refine (sEqual_any _ _ _ _ _ HA HB).mono ?_
    rintro e w3 ⟨rfl, b3⟩
    rw [← HP.out]
    have XX : FBox ((w2.setCell ⟨w1.heap.size, 0, none⟩ (.int .i64 0)).setCell ⟨w1.heap.size, 1, none⟩ (.int .i64 i)) w.heap.size 0 0 := X2.out.below ((((Below.refl (w.heap.size + 1) w2).setCell (p := ⟨w1.heap.size, 0, none⟩) (by simp; omega) _)).setCell (p := ⟨w1.heap.size, 1, none⟩) (by simp; omega) _) (by omega)
    obtain ⟨m1, q0, q1, r0, r1⟩ := XX.below b3 XX.lt
    have B3 : Below w.heap.size w w3 := ((B2.setCell (p := ⟨w1.heap.size, 0, none⟩) (by simp; omega) _).setCell (p := ⟨w1.heap.size, 1, none⟩) (by simp; omega) _).trans (b3.mono (by simp; omega))
    clear b3 HA HB XX g0 g1 f0 f1 k0 k1 e0 e1
    go_wp2
    refine bodyPost_ret (v := .tuple #[.bool (pre xs ys), .agg #[.int .i64 0, .int .i64 0]]) ?_ rfl ⟨by rw [HV.out], ?_⟩
    · simp [results, Tryz.results166, go_sem, q0, q1]
    · repeat (first | exact B3 | refine Below.setCell ?_ (by first | (simp; done) | (simp; omega)) _ | refine Below.alloc ?_ (by first | (simp; done) | (simp; omega)) _ | refine Below.drew ?_)
  · have hlez : ¬ (xs.length : Int) ≤ (ys.length : Int) := by omega
    have HP := Lib.hid (show pre xs ys = false by unfold pre; rw [decide_eq_false]; intro h; exact hle h.1)
    go_wp2
    refine bodyPost_ret (v := .tuple #[.bool false, .agg #[.int .i64 0, .int .i64 0]]) ?_ rfl ⟨by rw [HV.out, HP.out], ?_⟩
    · simp [results, Tryz.results166, go_sem, g0, g1]
    · repeat (first | exact B2 | refine Below.setCell ?_ (by first | (simp; done) | (simp; omega)) _ | refine Below.alloc ?_ (by first | (simp; done) | (simp; omega)) _ | refine Below.drew ?_)

theorem contains_any (a b : ByteArray) (w : World) (hg : GM w) (ha : a.size ≤ maxLen) (hb : b.size ≤ maxLen) :
    Calls Tryz.prog 166 #[.string a, .string b] w fun e w' => e = .returned (contV a b) ∧ Below w.heap.size w w' := by
  by_cases h1 : (splitF a).1 = 0
  · by_cases h2 : (splitF b).1 = 0
    · exact contains_ok a b w hg ha hb h1 h2
    · exact contains_badB a b w hg ha hb h1 h2
  · exact contains_badA a b w hg ha h1

end Go.Proofs.YtmbbmmnpkdfecaaGreatDoor
