/- Rows of values in a block of their own; a row of ints as make lays it. Conditions: as each theorem states. -/
import Derived.Test.YtiknheoeldboaaaFault
import Derived.Laws.MakeOwn

set_option linter.all false
namespace Go.Proofs.Ytiknheoeldboaaa
open Go.RowKit

/-- Block R holds m values. -/
structure Row (w : World) (R m : Nat) (f : Nat → Value) : Prop where
  lt : R < w.heap.size
  c : ∀ j, j < m → w.cell? ⟨R, j, none⟩ = some (f j)
  fz : ∀ j, w.frozen? ⟨R, j, none⟩ = false
theorem Row.below {w w' : World} {B R m : Nat} {f : Nat → Value} (h : Row w R m f) (hb : Below B w w') (hR : R < B) : Row w' R m f :=
  ⟨Nat.lt_of_lt_of_le h.lt hb.size, fun j hj => (hb.cell (p := ⟨R, j, none⟩) hR).trans (h.c j hj), fun j => (hb.frozen (p := ⟨R, j, none⟩) hR).trans (h.fz j)⟩
theorem Row.alloc {w : World} {R m : Nat} {f : Nat → Value} (h : Row w R m f) (o : Obj) : Row (w.alloc o) R m f :=
  h.below ((Below.refl w.heap.size w).alloc (Nat.le_refl _) o) h.lt
theorem Row.far {w : World} {R m : Nat} {f : Nat → Value} (h : Row w R m f) {p : Addr} (hp : R ≠ p.block) (u : Value) : Row (w.setCell p u) R m f :=
  ⟨by simpa using h.lt, fun j hj => (World.cell?_setCell_other w p _ u (fun e => hp (by rw [e]))).trans (h.c j hj), fun j => by simpa using h.fz j⟩
theorem Row.put {w : World} {R m : Nat} {f : Nat → Value} (h : Row w R m f) {i : Nat} (hi : i < m) (u : Value) : Row (w.setCell ⟨R, i, none⟩ u) R m (fun j => if j = i then u else f j) := by
  refine ⟨by simpa using h.lt, fun j hj => ?_, fun j => by simpa using h.fz j⟩
  by_cases e : j = i
  · subst e
    rw [if_pos rfl]
    exact World.cell?_setCell_same _ _ _ (h.c j hj)
  · rw [if_neg e]
    exact (World.cell?_setCell_other w ⟨R, i, none⟩ ⟨R, j, none⟩ u (fun h => by injection h with _ h2 _; exact e h2.symm)).trans (h.c j hj)
theorem Row.ext {w : World} {R m : Nat} {f g : Nat → Value} (h : Row w R m f) (e : ∀ j, j < m → f j = g j) : Row w R m g :=
  ⟨h.lt, fun j hj => by rw [← e j hj]; exact h.c j hj, h.fz⟩
theorem Row.at_ {w : World} {R R' m : Nat} {f : Nat → Value} (h : Row w R m f) (e : R = R') : Row w R' m f := e ▸ h
theorem row_new (w : World) (n : Nat) (z : Value) (t : TypeId) : Row (w.alloc (.cells (madeCells #[z] n) t)) w.heap.size n (fun _ => z) := by
  refine ⟨by simp, fun j hj => ?_, fun j => by simp⟩
  rw [World.cell?_alloc_new]
  simp [madeCells, hj, Nat.mod_one]

theorem int_info : (Try.prog.info? 3).map (fun i => (i.zero, i.size, i.bytes)) = some (some (.int .i64 0), 1, 8) := by kernel_rfl
theorem make_intsN (n : Nat) (hn : n ≤ 100000) (w : World) : (Instr.makeSlice 33 (.int .i64 (n : Int)) (.int .i64 (n : Int))).run Try.prog w = .ok (.slice (some ⟨w.heap.size, 0, none⟩) n n) (w.alloc (.cells (madeCells #[.int .i64 0] n) 3)) := by
  obtain ⟨i0, hi, hz0, hz1, hz2⟩ := info_parts int_info
  have hr := run_make (P := Try.prog) w 33 3 i0 _ Try.underlying33 hi hz0 .i64 .i64 n n (by omega) (by omega) (by rw [hz2]; omega) (by omega)
  simp only [Int.toNat_natCast, hz1, Nat.mul_one] at hr
  exact hr

theorem bool_info : (Try.prog.info? 4).map (fun i => (i.zero, i.size, i.bytes)) = some (some (.bool false), 1, 1) := by kernel_rfl
theorem make_boolsN (n : Nat) (hn : n ≤ 100000) (w : World) : (Instr.makeSlice 43 (.int .i64 (n : Int)) (.int .i64 (n : Int))).run Try.prog w = .ok (.slice (some ⟨w.heap.size, 0, none⟩) n n) (w.alloc (.cells (madeCells #[.bool false] n) 4)) := by
  obtain ⟨i0, hi, hz0, hz1, hz2⟩ := info_parts bool_info
  have hr := run_make (P := Try.prog) w 43 4 i0 _ Try.underlying43 hi hz0 .i64 .i64 n n (by omega) (by omega) (by rw [hz2]; omega) (by omega)
  simp only [Int.toNat_natCast, hz1, Nat.mul_one] at hr
  exact hr

end Go.Proofs.Ytiknheoeldboaaa
