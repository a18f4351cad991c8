/- The law PathCleanMatchesSpec returns true at every string. Conditions: those of path.Clean. -/
import Derived.Test.YtmjpcpnjppmnkaaDoorPathRefClean
namespace Go.Proofs.YtmjpcpnjppmnkaaDoor
open Go.RowKit

theorem refClean_any (s : ByteArray) (w : World) (hs : s.size ≤ maxLen) :
    Calls Tryd.prog 12 #[.string s] w fun e w' => e = .returned (cleanV s) ∧ Below w.heap.size w w' := by
  by_cases hl : 100 < s.size
  · exact refClean_long s w hs hl
  · exact refClean_short s w hl

def strC : ByteArray := ⟨#[99]⟩
def textC : ByteArray := ⟨#[97, 47, 46, 47, 98, 47, 46, 46, 47, 99]⟩
theorem vnameC : vname strC = true := by
  refine (vname_good (vshape_iff.2 ⟨by decide, by decide, ?_, ?_⟩) ?_).symm
  · rw [Lib.toList_data]; decide
  · rw [Lib.toList_data]; decide
  · decide
theorem compFaultAC : compFault [strA, strC] = (0, 0) := compFault_fine (by simp) (fun j hj => by
    match j, hj with
    | 0, _ => exact vnameA
    | 1, _ => exact vnameC)
theorem cleanL_C : cleanL textC = [strA, strC] := by
  have h1 : comps textC.data.toList = [strA, toB [46], strB, toB [46, 46], strC] := rfl
  have h2 : ∀ acc : List ByteArray, stepC acc (toB [46]) = acc := fun acc => by
    unfold stepC; rw [if_pos (Or.inr (by rw [Lib.toList_data, toB_data]))]
  have h3 : ∀ acc : List ByteArray, stepC acc (toB [46, 46]) = acc.dropLast := fun acc => by
    unfold stepC; rw [if_neg (by rw [Lib.toList_data, toB_data]; simp), if_pos (by rw [Lib.toList_data, toB_data])]
  unfold cleanL
  rw [h1]
  simp only [List.foldl_cons, List.foldl_nil, stepC_name vnameA, stepC_name vnameB, stepC_name vnameC, h2, h3, List.nil_append]
  rfl
theorem cleanV_C : cleanV textC = .tuple #[.string ⟨#[47, 97, 47, 99]⟩, .agg #[.int .i64 0, .int .i64 0]] := by
  unfold cleanV
  rw [if_neg (by decide), cleanL_C, joinV_good compFaultAC (by decide)]
  rfl
theorem cleanV_form (s : ByteArray) : ∃ S c i, cleanV s = .tuple #[.string S, .agg #[.int .i64 c, .int .i64 i]] := by
  rcases cleanV_cases s with ⟨c, i, _, e⟩ | ⟨p, _, e⟩
  · exact ⟨_, _, _, e⟩
  · exact ⟨_, _, _, e⟩

set_option maxHeartbeats 800000 in
theorem lawClean_any (s : ByteArray) (w : World) (hg : GM w) (hs : s.size ≤ maxLen) :
    Calls Tryd.prog 4 #[.string s] w fun e w' => e = .returned (.bool true) ∧ Below w.heap.size w w' := by
  have c1 := fun W (hb : Below w.heap.size w W) => pathClean_any s W (hg.below hb) hs
  have c2 := fun W => refClean_any s W hs
  have c3 := fun W (hb : Below w.heap.size w W) => pathClean_any textC W (hg.below hb) (by decide)
  rw [cleanV_C] at c3
  obtain ⟨S, c, i, hJ⟩ := cleanV_form s
  rw [hJ] at c1 c2
  have C1 := Lib.hid c1
  have C2 := Lib.hid c2
  have C3 := Lib.hid c3
  clear c1 c2 c3 hJ
  go_enter Tryd.func4, Tryd.ntmps4
  go_wp2_with fail
  refine (C1.out _ (Below.refl _ _)).mono ?_
  rintro e w1 ⟨rfl, B1⟩
  have hs1 := B1.size
  go_wp2_with fail
  refine (C2.out _).mono ?_
  rintro e w2 ⟨rfl, b2⟩
  have hs2 : w1.heap.size < w2.heap.size := by have := b2.size; simp at this; omega
  have B2 : Below w.heap.size w w2 := (B1.alloc B1.size _).trans (b2.mono (by simp; omega))
  have X1 := Lib.hid ((FBox.new w1 c i 24).below b2 (by simp))
  clear b2
  go_wp2_with fail
  refine (C3.out _ (B2.alloc B2.size _)).mono ?_
  rintro e w3 ⟨rfl, b3⟩
  have hs3 : w2.heap.size < w3.heap.size := by have := b3.size; simp at this; omega
  have B3 : Below w.heap.size w w3 := (B2.alloc B2.size _).trans (b3.mono (by simp; omega))
  obtain ⟨l1, a0, a1, f0, f1⟩ := (X1.out.alloc _).below b3 (by simp; omega)
  obtain ⟨l2, d0, d1, e0, e1⟩ := (FBox.new w2 c i 24).below b3 (by simp)
  clear X1 b3
  go_wp2
  go_ret
  refine ⟨rfl, ?_⟩
  repeat (first | exact B3 | refine Below.setCell ?_ (by first | omega | (simp; done) | (simp; omega)) _ | refine Below.alloc ?_ (by first | omega | (simp; done) | (simp; omega)) _ | refine Below.drew ?_)

end Go.Proofs.YtmjpcpnjppmnkaaDoor
