/- A block that holds a list of values: kept over new blocks, over stores elsewhere, changed by a store. Conditions: as each theorem states. -/
import Derived.Test.YtfealpehdjeckaaDoorFault
import Derived.Test.YtfealpehdjeckaaDoorFsFrame
namespace Go.Proofs.YtfealpehdjeckaaDoor
open Go.RowKit

/-- Block n begins with these values, and none of them is frozen. -/
structure Blk (w : World) (n : Nat) (l : List Value) : Prop where
  lt : n < w.heap.size
  c : ∀ j v, l[j]? = some v → w.cell? ⟨n, j, none⟩ = some v
  f : ∀ j, j < l.length → w.frozen? ⟨n, j, none⟩ = false
theorem Blk.new (w : World) (l : List Value) (t : TypeId) : Blk (w.alloc (.cells l.toArray t)) w.heap.size l :=
  ⟨by simp, fun j v h => by simpa using h, fun j _ => by simp⟩
theorem Blk.at_ {w : World} {n n' : Nat} {l : List Value} (h : Blk w n l) (e : n = n') : Blk w n' l := e ▸ h
theorem Blk.of_block {w w' : World} {n : Nat} {l : List Value} (h : Blk w n l) (hb : w'.heap[n]? = w.heap[n]?) : Blk w' n l := by
  have hlt : n < w'.heap.size := by
    rcases Nat.lt_or_ge n w'.heap.size with hlt | hge
    · exact hlt
    · rw [Array.getElem?_eq_none hge, Array.getElem?_eq_getElem h.lt] at hb; cases hb
  exact ⟨hlt, fun j v hj => (World.cell?_of_block (a := ⟨n, j, none⟩) hb).trans (h.c j v hj), fun j hj => (World.frozen?_of_block (a := ⟨n, j, none⟩) hb).trans (h.f j hj)⟩
theorem Blk.below {w w' : World} {B n : Nat} {l : List Value} (h : Blk w n l) (hb : Below B w w') (hn : n < B) : Blk w' n l := h.of_block (hb.block n hn)
theorem Blk.up {w w' : World} {n : Nat} {l : List Value} (h : Blk w n l) (hb : Below w.heap.size w w') : Blk w' n l := h.below hb h.lt
theorem Blk.alloc {w : World} {n : Nat} {l : List Value} (h : Blk w n l) (o : Obj) : Blk (w.alloc o) n l := h.up ((Below.refl w.heap.size w).alloc (Nat.le_refl _) o)
theorem Blk.drewN {w : World} {n : Nat} {l : List Value} (h : Blk w n l) (k : Nat) : Blk (w.drewN k) n l := ⟨h.lt, h.c, h.f⟩
theorem Blk.kept {S : Nat → Prop} {row : Option Nat} {a b : World} {n : Nat} {l : List Value} (h : Blk a n l) (k : Kept S row a b) (hS : ¬ S n) (hr : some n ≠ row) : Blk b n l :=
  h.of_block (k.block n h.lt hS hr)
theorem Blk.far {w : World} {n : Nat} {l : List Value} (h : Blk w n l) {p : Addr} (hp : n ≠ p.block) (u : Value) : Blk (w.setCell p u) n l :=
  ⟨by simpa using h.lt, fun j v hj => (World.cell?_setCell_other w p _ u (fun e => hp (by rw [e]))).trans (h.c j v hj), fun j hj => by simpa using h.f j hj⟩
theorem Blk.put {w : World} {n : Nat} {l : List Value} (h : Blk w n l) (j : Nat) (u : Value) (hj : j < l.length) : Blk (w.setCell ⟨n, j, none⟩ u) n (l.set j u) := by
  refine ⟨by simpa using h.lt, fun i v hi => ?_, fun i hi => by simpa using h.f i (by simpa using hi)⟩
  rw [List.getElem?_set] at hi
  by_cases e : j = i
  · subst e
    rw [if_pos rfl, if_pos hj] at hi
    injection hi with hi
    subst hi
    exact World.cell?_setCell_same w ⟨n, j, none⟩ u (h.c j _ (List.getElem?_eq_getElem hj))
  · rw [if_neg e] at hi
    exact (World.cell?_setCell_other w ⟨n, j, none⟩ _ u (fun he => e (by cases he; rfl))).trans (h.c i v hi)

end Go.Proofs.YtfealpehdjeckaaDoor
