/- The reference's NewFault, and the value of a fault. No condition. -/
import Derived.Test.YtiknheoeldboaaaProg
import Derived.Test.YtiknheoeldboaaaKit

set_option linter.all false
namespace Go.Proofs.Ytiknheoeldboaaa
open Go.RowKit

def faultV (c i : Int) : Value := .agg #[.int .i64 c, .int .i64 i]

set_option maxHeartbeats 400000 in
theorem newFault_any (c i : Int) (w : World) :
    Calls Try.prog 15 #[.int .i64 c, .int .i64 i] w fun e w' => e = .returned (.agg #[.int .i64 c, .int .i64 i]) ∧ Below w.heap.size w w' := by
  go_enter Try.func15, Try.ntmps15
  go_wp2
  exact bodyPost_ret (v := faultV c i) (by simp [results, Try.results15, faultV, go_sem]) rfl ⟨rfl, (Below.refl _ _).alloc (Nat.le_refl _) _⟩

theorem FBox.far {w : World} {n : Nat} {c i : Int} (h : FBox w n c i) {p : Addr} (hp : n ≠ p.block) (u : Value) : FBox (w.setCell p u) n c i :=
  ⟨by simpa using h.lt, (World.cell?_setCell_other w p _ u (fun e => hp (by rw [e]))).trans h.c0, (World.cell?_setCell_other w p _ u (fun e => hp (by rw [e]))).trans h.c1, by simpa using h.f0, by simpa using h.f1⟩
theorem FBox.put {w : World} {n : Nat} {c i : Int} (h : FBox w n c i) (c' i' : Int) : FBox ((w.setCell ⟨n, 0, none⟩ (.int .i64 c')).setCell ⟨n, 1, none⟩ (.int .i64 i')) n c' i' :=
  ⟨by simpa using h.lt, (World.cell?_setCell_other _ ⟨n, 1, none⟩ _ _ (by simp)).trans (World.cell?_setCell_same _ _ _ h.c0), World.cell?_setCell_same _ _ _ ((World.cell?_setCell_other _ ⟨n, 0, none⟩ _ _ (by simp)).trans h.c1), by simpa using h.f0, by simpa using h.f1⟩

theorem FBox.of_block {w w' : World} {n : Nat} {c i : Int} (h : FBox w n c i) (hb : w'.heap[n]? = w.heap[n]?) : FBox w' n c i := by
  have hlt : n < w'.heap.size := by
    rcases Nat.lt_or_ge n w'.heap.size with hlt | hge
    · exact hlt
    · rw [Array.getElem?_eq_none hge, Array.getElem?_eq_getElem h.lt] at hb; cases hb
  have f : ∀ o, w'.frozen? ⟨n, o, none⟩ = w.frozen? ⟨n, o, none⟩ := fun o => by unfold World.frozen?; simp only [hb]
  exact ⟨hlt, (World.cell?_of_block (a := ⟨n, 0, none⟩) hb).trans h.c0, (World.cell?_of_block (a := ⟨n, 1, none⟩) hb).trans h.c1, (f 0).trans h.f0, (f 1).trans h.f1⟩
theorem FBox.grown {w w' : World} {n : Nat} {c i : Int} {row : Option Nat} (h : FBox w n c i) (hg : w.grownBy w' row) (hn : some n ≠ row) : FBox w' n c i :=
  h.of_block (hg.block n h.lt hn)

/-- Block n holds one value. -/
structure One (w : World) (n : Nat) (v : Value) : Prop where
  lt : n < w.heap.size
  c0 : w.cell? ⟨n, 0, none⟩ = some v
  f0 : w.frozen? ⟨n, 0, none⟩ = false
theorem One.new (w : World) (v : Value) (t : TypeId) : One (w.alloc (.cells #[v] t)) w.heap.size v := ⟨by simp, by simp, by simp⟩
theorem One.below {w w' : World} {B n : Nat} {v : Value} (h : One w n v) (hb : Below B w w') (hn : n < B) : One w' n v :=
  ⟨Nat.lt_of_lt_of_le h.lt hb.size, (hb.cell (p := ⟨n, 0, none⟩) hn).trans h.c0, (hb.frozen (p := ⟨n, 0, none⟩) hn).trans h.f0⟩
theorem One.alloc {w : World} {n : Nat} {v : Value} (h : One w n v) (o : Obj) : One (w.alloc o) n v :=
  h.below ((Below.refl w.heap.size w).alloc (Nat.le_refl _) o) h.lt
theorem One.drew {w : World} {n : Nat} {v : Value} (h : One w n v) : One w.drew n v := ⟨h.lt, h.c0, h.f0⟩
theorem One.at_ {w : World} {n n' : Nat} {v : Value} (h : One w n v) (e : n = n') : One w n' v := e ▸ h
theorem FBox.at_ {w : World} {n n' : Nat} {c i : Int} (h : FBox w n c i) (e : n = n') : FBox w n' c i := e ▸ h
theorem One.far {w : World} {n : Nat} {v : Value} (h : One w n v) {p : Addr} (hp : n ≠ p.block) (u : Value) : One (w.setCell p u) n v :=
  ⟨by simpa using h.lt, (World.cell?_setCell_other w p _ u (fun e => hp (by rw [e]))).trans h.c0, by simpa using h.f0⟩

theorem One.grown {w w' : World} {n : Nat} {v : Value} {row : Option Nat} (h : One w n v) (hg : w.grownBy w' row) (hn : some n ≠ row) : One w' n v := by
  have hb := hg.block n h.lt hn
  have f : w'.frozen? ⟨n, 0, none⟩ = w.frozen? ⟨n, 0, none⟩ := by unfold World.frozen?; simp only [hb]
  exact ⟨Nat.lt_of_lt_of_le h.lt hg.size, (World.cell?_of_block (a := ⟨n, 0, none⟩) hb).trans h.c0, f.trans h.f0⟩
theorem own_below {w w' : World} {base n size : Nat} {e : TypeId} {v : Value} {xs : List Value} (h : w.ownsRow base e size v n xs) (hb : Below w.heap.size w w') : w'.ownsRow base e size v n xs :=
  h.kept (row := none) ⟨hb.os, hb.tape, hb.output, hb.size, fun i hi _ => hb.block i hi⟩ (by cases v.ownBlock with
    | none => exact .inl rfl
    | some g => exact .inr (by simp))

theorem field_code (c i : Int) (w : World) : (Instr.field 23 (.agg #[.int .i64 c, .int .i64 i]) 0).run Try.prog w = .ok (.int .i64 c) w := by kernel_rfl

theorem FBox.drewN {w : World} {n : Nat} {c i : Int} (h : FBox w n c i) (k : Nat) : FBox (w.drewN k) n c i := ⟨h.lt, h.c0, h.c1, h.f0, h.f1⟩

end Go.Proofs.Ytiknheoeldboaaa
