/- The tree of one empty directory, and the law's own function that makes it. No condition. -/
import Derived.Test.YtglaohaeaofnhaaGreatDoorFsTree
import Derived.Test.YtglaohaeaofnhaaGreatDoorFsSpec
namespace Go.Proofs.YtglaohaeaofnhaaGreatDoor
open Go.RowKit

/-- The tree of one empty directory. -/
def emptyT : Tr := [⟨1, 0, [], 0, [], [], 0, 0⟩]
theorem valT_emptyT : (valT emptyT).1 = 0 := by decide +kernel
theorem visits_emptyT : visits emptyT 0 = [([], 0)] := rfl
set_option maxRecDepth 100000 in
set_option maxHeartbeats 800000 in
theorem empty_any (w : World) :
    Calls Tryz.prog 5 #[] w fun e w' => ∃ b, e = .returned (.agg #[.slice (some ⟨b, 0, none⟩) emptyT.length 1]) ∧ Nods w' w'.heap.size (some ⟨b, 0, none⟩) 1 emptyT ∧ Below w.heap.size w w' := by
  go_enter Tryz.func5, Tryz.ntmps5
  go_wp2
  refine bodyPost_ret (v := .agg #[.slice (some ⟨w.heap.size + 1, 0, none⟩) 1 1]) (by simp [results, Tryz.results5, go_sem]) rfl ⟨_, rfl, ⟨by decide, by decide, fun _ => ⟨_, 0, rfl, by simp, fun j hj => ?_⟩⟩, by repeat (first | exact Below.refl _ _ | refine Below.setCell ?_ (by first | omega | (simp; done) | (simp; omega)) _ | refine Below.alloc ?_ (by first | omega | (simp; done) | (simp; omega)) _)⟩
  obtain rfl : j = 0 := by simp [emptyT] at hj; omega
  refine ⟨.slice none 0 0, .slice none 0 0, .slice none 0 0, .slice none 0 0, ⟨by simp [nod, emptyT], by simp [nod, emptyT], by simp, by simp, by simp, by simp, by simp [nod, emptyT], by simp [nod, emptyT]⟩, ⟨DEs.none_ _ _, ⟨none, 0, rfl, by simp [nod, emptyT]⟩, by simp [nod, emptyT], Acls.none_ _ _, Ats.none_ _ _, by unfold i64; decide, by unfold i64; decide, by unfold i64; decide, by unfold i64; decide⟩⟩

end Go.Proofs.YtglaohaeaofnhaaGreatDoor
