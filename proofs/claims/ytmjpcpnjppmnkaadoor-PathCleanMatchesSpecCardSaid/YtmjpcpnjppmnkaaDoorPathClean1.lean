/- The function literal in path.Clean, which follows one element: it leaves the list that the plain step leaves, in the captured variable, and nothing else below its own rows is turned. -/
import Derived.Test.YtmjpcpnjppmnkaaDoorPathRefSplit
import Derived.WalkSmall
import Derived.Deep.AppendLies
namespace Go.Proofs.YtmjpcpnjppmnkaaDoor
open Go.RowKit

/-- One element followed. -/
def stepC (acc : List ByteArray) (e : ByteArray) : List ByteArray :=
  if e.toList = [] ∨ e.toList = [46] then acc else if e.toList = [46, 46] then acc.dropLast else acc ++ [e]

/-- Below base all is as it was, but for block B. -/
structure BelowBut (B base : Nat) (a b : World) : Prop where
  os : b.os = a.os
  tape : b.tape = a.tape
  output : b.output = a.output
  size : a.heap.size ≤ b.heap.size
  block : ∀ k, k < base → k ≠ B → b.heap[k]? = a.heap[k]?
theorem BelowBut.refl (B base : Nat) (a : World) : BelowBut B base a a := ⟨rfl, rfl, rfl, Nat.le_refl _, fun _ _ _ => rfl⟩
theorem BelowBut.trans {B base : Nat} {a b c : World} (h : BelowBut B base a b) (k : BelowBut B base b c) : BelowBut B base a c :=
  ⟨k.os.trans h.os, k.tape.trans h.tape, k.output.trans h.output, Nat.le_trans h.size k.size, fun i hi hB => (k.block i hi hB).trans (h.block i hi hB)⟩
theorem BelowBut.of_below {B base : Nat} {a b : World} (h : Below base a b) : BelowBut B base a b := ⟨h.os, h.tape, h.output, h.size, fun k hk _ => h.block k hk⟩
theorem BelowBut.set {base : Nat} {a : World} {B : Nat} (i : Nat) (u : Value) : BelowBut B base a (a.setCell ⟨B, i, none⟩ u) :=
  ⟨rfl, rfl, rfl, by simp, fun k _ hB => Below.heap_setCell a _ u k hB⟩
theorem BelowBut.below {B base B0 : Nat} {a b : World} (h : BelowBut B base a b) (hB : B0 ≤ B) (hb : B0 ≤ base) : Below B0 a b :=
  ⟨h.os, h.tape, h.output, h.size, fun k hk => h.block k (by omega) (by omega)⟩
theorem BelowBut.cell {B base : Nat} {a b : World} (h : BelowBut B base a b) {p : Addr} (hp : p.block < base) (hB : p.block ≠ B) : b.cell? p = a.cell? p := World.cell?_of_block (h.block _ hp hB)
theorem BelowBut.frozen {B base : Nat} {a b : World} (h : BelowBut B base a b) {p : Addr} (hp : p.block < base) (hB : p.block ≠ B) : b.frozen? p = a.frozen? p := World.frozen?_of_block (h.block _ hp hB)

/-- The captured variable holds the list, in rows of its own. -/
def CState (a b : World) (B base : Nat) (acc : List ByteArray) : Prop :=
  ∃ v, b.cell? ⟨B, 0, none⟩ = some v ∧ b.frozen? ⟨B, 0, none⟩ = false ∧ b.ownsRow base 9 1 v acc.length (acc.map Value.string) ∧ BelowBut B base a b

theorem cstate_set {a b : World} {B base : Nat} {acc : List ByteArray} {u v : Value} (hB : B < base) (hc : b.cell? ⟨B, 0, none⟩ = some u) (hf : b.frozen? ⟨B, 0, none⟩ = false)
    (hown : b.ownsRow base 9 1 v acc.length (acc.map Value.string)) (hbb : BelowBut B base a b) : CState a (b.setCell ⟨B, 0, none⟩ v) B base acc := by
  refine ⟨v, ?_, ?_, ownsRow_setCell_below hown (a := ⟨B, 0, none⟩) hB v, hbb.trans (BelowBut.set 0 v)⟩
  · exact World.cell?_setCell_same' _ _ _ (by rw [hc]; rfl)
  · rw [World.frozen?_setCell]; exact hf

theorem isEmpty_false {e : ByteArray} (h : ¬ e.toList = []) : e.toList.isEmpty = false := by
  cases h' : e.toList with
  | nil => exact absurd h' h
  | cons => rfl

set_option maxHeartbeats 800000 in
theorem clean1_skip (B base : Nat) (e : ByteArray) (acc : List ByteArray) (w : World) (hst : CState w w B base acc) (h0 : e.toList = [] ∨ e.toList = [46]) :
    Calls Tryd.prog 22 #[.string e, .pointer (some ⟨B, 0, none⟩)] w fun en w' => en = .returned (.tuple #[]) ∧ CState w w' B base (stepC acc e) := by
  have HS := Lib.hid (show stepC acc e = acc by unfold stepC; rw [if_pos h0])
  have HT := Lib.hid hst
  clear hst
  by_cases h1 : e.toList = []
  · have b1 : e.toList.isEmpty = true := by rw [h1]; rfl
    clear h0 h1
    go_enter Tryd.func22, Tryd.ntmps22
    go_wp2
    go_end0
    exact ⟨rfl, by rw [HS.out]; exact HT.out⟩
  · have b1 := isEmpty_false h1
    have b2 : (e.toList == [46]) = true := by
      rcases h0 with h | h
      · exact absurd h h1
      · rw [h]; rfl
    clear h0 h1
    go_enter Tryd.func22, Tryd.ntmps22
    go_wp2
    go_end0
    exact ⟨rfl, by rw [HS.out]; exact HT.out⟩

set_option maxHeartbeats 800000 in
theorem clean1_up (B base : Nat) (e : ByteArray) (acc : List ByteArray) (w : World) (hB : B < base) (hst : CState w w B base acc) (hl : acc.length ≤ 1000) (h1 : e.toList = [46, 46]) :
    Calls Tryd.prog 22 #[.string e, .pointer (some ⟨B, 0, none⟩)] w fun en w' => en = .returned (.tuple #[]) ∧ CState w w' B base (stepC acc e) := by
  obtain ⟨v, hc, hf, hown, hbb⟩ := hst
  clear hbb
  have HS := Lib.hid (show stepC acc e = acc.dropLast by
    unfold stepC; rw [if_neg (by rw [h1]; simp), if_pos h1])
  have b1 : e.toList.isEmpty = false := by rw [h1]; rfl
  have b2 : (e.toList == [46]) = false := by rw [h1]; rfl
  have b3 : (e.toList == [46, 46]) = true := by rw [h1]; rfl
  clear h1
  by_cases h0 : acc = []
  · subst h0
    have hv : v = .slice none 0 0 ∨ ∃ a cap, v = .slice (some a) 0 cap := by
      rcases hown.2 with ⟨h, _⟩ | ⟨g, cap, cur, h, _⟩
      · exact .inl h
      · exact .inr ⟨_, cap, h⟩
    rcases hv with rfl | ⟨a, cap, rfl⟩
    · have HO := Lib.hid hown
      clear hown
      go_enter Tryd.func22, Tryd.ntmps22
      go_wp2
      go_end0
      refine ⟨rfl, ?_⟩
      rw [HS.out]
      exact cstate_set hB hc hf HO.out (BelowBut.refl _ _ _)
    · have HO := Lib.hid hown
      clear hown
      go_enter Tryd.func22, Tryd.ntmps22
      go_wp2
      go_end0
      refine ⟨rfl, ?_⟩
      rw [HS.out]
      exact cstate_set hB hc hf HO.out (BelowBut.refl _ _ _)
  · obtain ⟨init, last, rfl⟩ : ∃ init last, acc = init ++ [last] := ⟨_, _, (List.dropLast_concat_getLast h0).symm⟩
    rw [List.dropLast_concat] at HS
    rw [List.length_append, List.length_singleton] at hown hl
    rw [List.map_append, List.map_singleton] at hown
    obtain ⟨g, cap, rfl, hcap⟩ : ∃ g cap, v = .slice (some ⟨g, 0, none⟩) (init.length + 1) cap ∧ init.length + 1 ≤ cap := by
      rcases hown.2 with ⟨_, h⟩ | ⟨g, cap, cur, h, _, _, h2, _⟩
      · omega
      · exact ⟨g, cap, h, h2⟩
    have HO := Lib.hid (ownsRow_pop (by simp) hown)
    clear hown h0
    go_enter Tryd.func22, Tryd.ntmps22
    go_wp2
    go_end0
    refine ⟨rfl, ?_⟩
    rw [HS.out]
    exact cstate_set hB hc hf HO.out (BelowBut.refl _ _ _)

set_option maxHeartbeats 800000 in
theorem clean1_down (B base : Nat) (e : ByteArray) (acc : List ByteArray) (w : World) (hB : B < base) (hbase : base ≤ w.heap.size) (hst : CState w w B base acc) (hl : acc.length ≤ 1000) (h0 : ¬ (e.toList = [] ∨ e.toList = [46])) (h1 : ¬ e.toList = [46, 46]) :
    Calls Tryd.prog 22 #[.string e, .pointer (some ⟨B, 0, none⟩)] w fun en w' => en = .returned (.tuple #[]) ∧ CState w w' B base (stepC acc e) := by
  obtain ⟨v, hc, hf, hown, hbb⟩ := hst
  clear hbb
  have HS := Lib.hid (show stepC acc e = acc ++ [e] by unfold stepC; rw [if_neg h0, if_neg h1])
  have b1 := isEmpty_false (fun h => h0 (Or.inl h))
  have b2 : (e.toList == [46]) = false := by rw [beq_eq_false_iff_ne]; exact fun h => h0 (Or.inr h)
  have b3 : (e.toList == [46, 46]) = false := by rw [beq_eq_false_iff_ne]; exact h1
  obtain ⟨i0, hi, hz0, hz1, hz2⟩ := info_parts info9
  have HG := Lib.hid hown.lt
  clear h0 h1
  go_enter Tryd.func22, Tryd.ntmps22
  go_wp2_with (at_builtin; refine wpList_append_own _ rfl _ _ 22 rfl base 9 i0 (.string ByteArray.empty) 1 16 Tryd.underlying22 hi hz0 hz1 hz2 rfl (by decide) _ _ _ rfl (hown.alloc _) ⟨w.heap.size, 0, none⟩ 1 1 [.string e] rfl rfl ?c1 ?c2 ?c3 ?c4 ?c5 ?_)
  case c1 => exact cell_one_new _ _ _
  case c2 => simp [Value.oneCell']
  case c3 => unfold maxLen; omega
  case c4 => omega
  case c5 => simp; omega
  intro v' w1 hown1 hgrow1 hnn
  clear hnn
  obtain ⟨g', cap', rfl, _, _⟩ := hown1.form (by omega)
  have hne : some B ≠ v.ownBlock := fun h => by have := (HG.out B h.symm).1; omega
  have hc1 : w1.cell? ⟨B, 0, none⟩ = some v := by
    rw [hgrow1.cell_far ⟨B, 0, none⟩ (by simp; omega) hne, World.cell?_alloc_past _ _ _ (by omega)]; exact hc
  have hf1 : w1.frozen? ⟨B, 0, none⟩ = false := by
    rw [hgrow1.frozen_far ⟨B, 0, none⟩ (by simp; omega) hne, World.frozen?_alloc_past _ _ _ (by omega)]; exact hf
  have HB := Lib.hid (((Below.refl base w).alloc hbase (.cells #[.string e] 9)).grown hgrow1 (by simp; omega) (fun g hg => (HG.out g hg).1))
  have HO := Lib.hid hown1
  clear hown hown1 hgrow1 hne
  go_wp2
  go_end0
  refine ⟨rfl, ?_⟩
  rw [HS.out]
  exact cstate_set hB hc1 hf1 (by simpa using HO.out) (BelowBut.of_below HB.out)

theorem clean1_any (B base : Nat) (e : ByteArray) (acc : List ByteArray) (w : World) (hB : B < base) (hbase : base ≤ w.heap.size) (hst : CState w w B base acc) (hl : acc.length ≤ 1000) :
    Calls Tryd.prog 22 #[.string e, .pointer (some ⟨B, 0, none⟩)] w fun en w' => en = .returned (.tuple #[]) ∧ CState w w' B base (stepC acc e) := by
  by_cases h0 : e.toList = [] ∨ e.toList = [46]
  · exact clean1_skip B base e acc w hst h0
  · by_cases h1 : e.toList = [46, 46]
    · exact clean1_up B base e acc w hB hst hl h1
    · exact clean1_down B base e acc w hB hbase hst hl h0 h1

end Go.Proofs.YtmjpcpnjppmnkaaDoor
