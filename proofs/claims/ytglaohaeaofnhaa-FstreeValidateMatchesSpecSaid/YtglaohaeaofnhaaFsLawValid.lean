/- The law FstreeValidateMatchesSpec returns true at every tree. Conditions: the tree's cells lie in memory as they read. -/
import Derived.Test.YtglaohaeaofnhaaFsValid
import Derived.Test.YtglaohaeaofnhaaFsVTree
namespace Go.Proofs.Ytglaohaeaofnhaa
open Go.RowKit

theorem nods_none (w : World) (B : Nat) : Nods w B none 0 [] := ⟨by simp, by simp, fun h => absurd h (by simp)⟩
theorem valT_empty : valT [] = (6, 0) := valT_none rfl

set_option maxRecDepth 100000 in
set_option maxHeartbeats 1600000 in
theorem lawFsValid_any (a : Option Addr) (c : Nat) (t : Tr) (w : World) (h : Nods w w.heap.size a c t) :
    Calls Try.prog 3 #[.agg #[.slice a t.length c]] w fun e w' => e = .returned (.bool true) ∧ Below w.heap.size w w' := by
  have C1 := Lib.hid (fun W (hb : Below w.heap.size w W) => validT_any a c t W (h.up hb))
  have C2 := Lib.hid (fun W (hb : Below w.heap.size w W) => vtree_any a c t W (h.up hb))
  have C3 := Lib.hid (fun W => validT_any none 0 [] W (nods_none W _))
  rw [valT_empty] at C3
  unfold faultV at C1 C2 C3
  clear h
  have HN0 : ∃ av, av = Value.agg #[.slice none 0 0] := ⟨_, rfl⟩
  obtain ⟨av, hav⟩ := HN0
  have HN := Lib.hid hav
  have C3b : Hid (∀ (W : World), Calls Try.prog 6 #[av] W fun e w' => e = .returned (.agg #[.int .i64 6, .int .i64 0]) ∧ Below W.heap.size W w') := Lib.hid (by rw [hav]; exact C3.out)
  clear C3 hav
  have C3 := C3b
  clear C3b
  generalize Value.slice a t.length c = sv at *
  generalize (valT t).1 = q at *
  generalize (valT t).2 = r at *
  have B0 := Lib.hid ((Below.refl w.heap.size w).alloc (Nat.le_refl _) (.cells #[sv] 24))
  have K := Lib.hid (fun y (hy : Below (w.heap.size + 1) (w.alloc (.cells #[sv] 24)) y) => (show Below (w.heap.size + 1) (w.alloc (.cells #[sv] 24)) y ∧ y.cell? ⟨w.heap.size, 0, none⟩ = some (sv) from
    ⟨hy, (hy.cell (p := ⟨w.heap.size, 0, none⟩) (by simp)).trans (by simp)⟩))
  go_enter Try.func3, Try.ntmps3
  go_wp2_with fail
  go_region_held3 (fun y => Below (w.heap.size + 1) (w.alloc (.cells #[sv] 24)) y ∧ y.cell? ⟨w.heap.size, 0, none⟩ = some (sv))
    (first | exact K.out _ hR | exact K.out _ (Below.refl _ _).drew)
    (first
      | (go_at_call 7; have hs0 := And.left ‹Below (w.heap.size + 1) _ _ ∧ _›; refine (C2.out _ (B0.out.trans (hs0.mono (by omega)))).mono ?_; rintro e y ⟨rfl, hb9⟩; have hR := hs0.trans (hb9.mono (Nat.le_trans (by simp) hs0.size)))
      | (go_at_call 8; have hs0 := And.left ‹Below (w.heap.size + 1) _ _ ∧ _›; refine (newFault_any _ _ _).mono ?_; rintro e y ⟨rfl, hb9⟩; have hR := hs0.trans (hb9.mono (Nat.le_trans (by simp) hs0.size)))
      | (go_at_call 6; rw [← HN.out]; have hs0 := And.left ‹Below (w.heap.size + 1) _ _ ∧ _›; refine (C3.out _).mono ?_; rintro e y ⟨rfl, hb9⟩; have hR := hs0.trans (hb9.mono (Nat.le_trans (by simp) hs0.size)))
      | (go_at_call 6; have hs0 := And.left ‹Below (w.heap.size + 1) _ _ ∧ _›; refine (C1.out _ (B0.out.trans (hs0.mono (by omega)))).mono ?_; rintro e y ⟨rfl, hb9⟩; have hR := hs0.trans (hb9.mono (Nat.le_trans (by simp) hs0.size))))
  all_goals
    have hz := And.left ‹Below (w.heap.size + 1) _ _ ∧ _›
    go_wp2
    go_ret
    exact ⟨rfl, B0.out.trans (hz.mono (by omega))⟩

end Go.Proofs.Ytglaohaeaofnhaa
