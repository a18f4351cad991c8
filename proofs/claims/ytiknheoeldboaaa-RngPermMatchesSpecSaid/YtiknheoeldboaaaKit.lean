/- Small words on memory: a struct of two ints in a block of its own (a fault), kept over new blocks and over whatever leaves the blocks below it alone; sets of facts on one block. No condition beyond those that each theorem states. -/
import Derived.WalkKit
import Derived.WalkSpells
import Derived.WalkLawsBesides
import Derived.Lib.Hide
import Derived.RegionTactic
import Derived.ChangeAlike
import Derived.Deep.LoopGhost
import Derived.Deep.Draws

set_option linter.all false
namespace Go.Proofs.Ytiknheoeldboaaa
open Go.RowKit

theorem ret_bool {a b : Bool} (h : a = b) : Ending.returned (.bool a) = .returned (.bool b) := by rw [h]
theorem ret_int {k : IntKind} {a b : Int} (h : a = b) : Ending.returned (.int k a) = .returned (.int k b) := by rw [h]
theorem ret_str {a b : ByteArray} (h : a = b) : Ending.returned (.string a) = .returned (.string b) := by rw [h]

theorem bcell {W w1 : World} (hb : Below W.heap.size W w1) : (∀ b o, b < W.heap.size → w1.cell? ⟨b, o, none⟩ = W.cell? ⟨b, o, none⟩) ∧ (∀ b o, b < W.heap.size → w1.frozen? ⟨b, o, none⟩ = W.frozen? ⟨b, o, none⟩) :=
  ⟨fun b o h => hb.cell (p := ⟨b, o, none⟩) h, fun b o h => hb.frozen (p := ⟨b, o, none⟩) h⟩

/-- Block n holds a struct of two ints. -/
structure FBox (w : World) (n : Nat) (c i : Int) : Prop where
  lt : n < w.heap.size
  c0 : w.cell? ⟨n, 0, none⟩ = some (.int .i64 c)
  c1 : w.cell? ⟨n, 1, none⟩ = some (.int .i64 i)
  f0 : w.frozen? ⟨n, 0, none⟩ = false
  f1 : w.frozen? ⟨n, 1, none⟩ = false
theorem FBox.new (w : World) (c i : Int) (t : TypeId) : FBox (w.alloc (.cells #[.int .i64 c, .int .i64 i] t)) w.heap.size c i :=
  ⟨by simp, by simp, by simp, by simp, by simp⟩
theorem FBox.below {w w' : World} {B n : Nat} {c i : Int} (h : FBox w n c i) (hb : Below B w w') (hn : n < B) : FBox w' n c i :=
  ⟨Nat.lt_of_lt_of_le h.lt hb.size, (hb.cell (p := ⟨n, 0, none⟩) hn).trans h.c0, (hb.cell (p := ⟨n, 1, none⟩) hn).trans h.c1,
    (hb.frozen (p := ⟨n, 0, none⟩) hn).trans h.f0, (hb.frozen (p := ⟨n, 1, none⟩) hn).trans h.f1⟩
theorem FBox.alloc {w : World} {n : Nat} {c i : Int} (h : FBox w n c i) (o : Obj) : FBox (w.alloc o) n c i :=
  h.below ((Below.refl w.heap.size w).alloc (Nat.le_refl _) o) h.lt

theorem cell_lt {w : World} {a : Addr} {v : Value} (h : w.cell? a = some v) : a.block < w.heap.size := by
  rcases Nat.lt_or_ge a.block w.heap.size with hlt | hge
  · exact hlt
  · unfold World.cell? at h; rw [Array.getElem?_eq_none hge] at h; simp at h

end Go.Proofs.Ytiknheoeldboaaa
