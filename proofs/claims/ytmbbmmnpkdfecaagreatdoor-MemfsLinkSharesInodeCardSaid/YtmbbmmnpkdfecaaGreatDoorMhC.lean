/- What a law of package memfs or of its neighbours needs, at the translation of this seat.
   Condition: as each theorem states; this text: FsSampleM. -/
import Derived.Test.YtmbbmmnpkdfecaaGreatDoorMb7
import Derived.Lib.SlBytesConst

set_option linter.all false

/- The laws' sample tree: its cells, its fault. No condition. -/

set_option linter.all false
namespace Go.Proofs.YtmbbmmnpkdfecaaGreatDoor
open Go.RowKit

def bsA : ByteArray := ⟨#[97]⟩
def bsF : ByteArray := ⟨#[102]⟩
/-- A directory, a directory in it, a file of three bytes in that. -/
def sampleT : Tr := [⟨1, 0, [⟨bsA, 1⟩], 0, [], [], 0, 0⟩, ⟨1, 0, [⟨bsF, 2⟩], 0, [], [], 0, 0⟩, ⟨2, 0, [], 3, [], [], 0, 0⟩]
theorem valT_sample : valT sampleT = (0, 0) := by decide +kernel
theorem cell_al {w : World} {b o : Nat} {v : Value} (h : w.cell? ⟨b, o, none⟩ = some v) (x : Obj) : (w.alloc x).cell? ⟨b, o, none⟩ = some v :=
  (((Below.refl w.heap.size w).alloc (Nat.le_refl _) x).cell (p := ⟨b, o, none⟩) (cell_lt h)).trans h
/-- What holds at the head of the outer loop. -/
structure SNv (w wr : World) (acc : List ByteArray) (v : Value) : Prop where
  B : Below w.heap.size w wr
  own : wr.ownsRow w.heap.size 9 1 v acc.length (acc.map Value.string)
theorem DEs.one {w : World} {B b : Nat} {x : ByteArray} {i : Int} (hb : b < B) (h0 : w.cell? ⟨b, 0, none⟩ = some (.string x)) (h1 : w.cell? ⟨b, 1, none⟩ = some (.int .i64 i)) (hx : x.size ≤ maxLen) (hi : i64 i) : DEs w B (.slice (some ⟨b, 0, none⟩) 1 1) [⟨x, i⟩] := by
  refine ⟨_, 1, rfl, Nat.le_refl _, by simp, fun e he => ?_, fun _ => ⟨b, 0, rfl, hb, fun j hj => ?_⟩⟩
  · rw [List.mem_singleton] at he; subst he; exact ⟨hx, hi⟩
  · obtain rfl : j = 0 := by simp at hj; omega
    exact ⟨h0, h1⟩

theorem new_cell {w : World} {cs : Array Value} {t : TypeId} {r : Nat × Nat} {n j : Nat} {v : Value} (hn : n = w.heap.size) (h : cs[j]? = some v) : (w.alloc (.cells cs t r)).cell? ⟨n, j, none⟩ = some v := by
  subst hn; rw [cell_of_row _ _ _ _ t r (heap_alloc_new w _)]; exact h
set_option maxRecDepth 100000 in
set_option maxHeartbeats 1600000 in
theorem sample_any (w : World) :
    Calls Tryz.prog 27 #[] w fun e w' => ∃ b, e = .returned (.agg #[.slice (some ⟨b, 0, none⟩) sampleT.length 3]) ∧ Nods w' w'.heap.size (some ⟨b, 0, none⟩) 3 sampleT ∧ Below w.heap.size w w' := by
  have hcv : (convert 25 25 (.slice (some ⟨w.heap.size + 1 + 1 + 1, 0, none⟩) 3 3)).run Tryz.prog ((((w.alloc (.cells #[.slice none 0 0] 24)).alloc (.cells #[.string ⟨#[97]⟩, .int .i64 1] 93)).alloc (.cells #[.string ⟨#[102]⟩, .int .i64 2] 93)).alloc (.cells #[.int .u8 120, .int .u8 121, .int .u8 122] 5)) = .ok (.slice (some ⟨w.heap.size + 1 + 1 + 1, 0, none⟩) 3 3) ((((w.alloc (.cells #[.slice none 0 0] 24)).alloc (.cells #[.string ⟨#[97]⟩, .int .i64 1] 93)).alloc (.cells #[.string ⟨#[102]⟩, .int .i64 2] 93)).alloc (.cells #[.int .u8 120, .int .u8 121, .int .u8 122] 5 (3, 4))) := by
    have := Lib.run_convert_bytes_const (P := Tryz.prog) (((w.alloc (.cells #[.slice none 0 0] 24)).alloc (.cells #[.string ⟨#[97]⟩, .int .i64 1] 93)).alloc (.cells #[.string ⟨#[102]⟩, .int .i64 2] 93)) 25 5 #[.int .u8 120, .int .u8 121, .int .u8 122] 3 3 Tryz.underlying25 Tryz.underlying5
    rw [show (((w.alloc (.cells #[.slice none 0 0] 24)).alloc (.cells #[.string ⟨#[97]⟩, .int .i64 1] 93)).alloc (.cells #[.string ⟨#[102]⟩, .int .i64 2] 93)).heap.size = w.heap.size + 1 + 1 + 1 from by simp] at this
    exact this
  go_enter Tryz.func27, Tryz.ntmps27
  go_wp2
  refine bodyPost_ret (v := .agg #[.slice (some ⟨w.heap.size + 1 + 1 + 1 + 1, 0, none⟩) 3 3]) (by simp [results, Tryz.results27, go_sem]) rfl ⟨_, rfl, ⟨by decide, by decide, fun _ => ⟨_, 0, rfl, by simp, fun j hj => ?_⟩⟩, by repeat (first | exact Below.refl _ _ | refine Below.setCell ?_ (by first | omega | (simp; done) | (simp; omega)) _ | refine Below.alloc ?_ (by first | omega | (simp; done) | (simp; omega)) _)⟩
  have hj3 : j < 3 := hj
  match j, hj3 with
  | 0, _ =>
    exact ⟨.slice (some ⟨w.heap.size + 1, 0, none⟩) 1 1, .slice none 0 0, .slice none 0 0, .slice none 0 0, ⟨new_cell (by simp) rfl, new_cell (by simp) rfl, new_cell (by simp) rfl, new_cell (by simp) rfl, new_cell (by simp) rfl, new_cell (by simp) rfl, new_cell (by simp) rfl, new_cell (by simp) rfl⟩, ⟨DEs.one (by first | (simp; done) | (simp; omega)) (cell_al (cell_al (cell_al (new_cell (by simp) rfl) _) _) _) (cell_al (cell_al (cell_al (new_cell (by simp) rfl) _) _) _) (by decide) (by unfold i64; decide), ⟨none, 0, rfl, by simp [nod, sampleT]⟩, by simp [nod, sampleT], Acls.none_ _ _, Ats.none_ _ _, by unfold i64; decide, by unfold i64; decide, by unfold i64; decide, by unfold i64; decide⟩⟩
  | 1, _ =>
    exact ⟨.slice (some ⟨w.heap.size + 1 + 1, 0, none⟩) 1 1, .slice none 0 0, .slice none 0 0, .slice none 0 0, ⟨new_cell (by simp) rfl, new_cell (by simp) rfl, new_cell (by simp) rfl, new_cell (by simp) rfl, new_cell (by simp) rfl, new_cell (by simp) rfl, new_cell (by simp) rfl, new_cell (by simp) rfl⟩, ⟨DEs.one (by first | (simp; done) | (simp; omega)) (cell_al (cell_al (new_cell (by simp) rfl) _) _) (cell_al (cell_al (new_cell (by simp) rfl) _) _) (by decide) (by unfold i64; decide), ⟨none, 0, rfl, by simp [nod, sampleT]⟩, by simp [nod, sampleT], Acls.none_ _ _, Ats.none_ _ _, by unfold i64; decide, by unfold i64; decide, by unfold i64; decide, by unfold i64; decide⟩⟩
  | 2, _ =>
    exact ⟨.slice none 0 0, .slice (some ⟨w.heap.size + 1 + 1 + 1, 0, none⟩) 3 3, .slice none 0 0, .slice none 0 0, ⟨new_cell (by simp) rfl, new_cell (by simp) rfl, new_cell (by simp) rfl, new_cell (by simp) rfl, new_cell (by simp) rfl, new_cell (by simp) rfl, new_cell (by simp) rfl, new_cell (by simp) rfl⟩, ⟨DEs.none_ _ _, ⟨_, 3, rfl, by simp [nod, sampleT]⟩, by simp [nod, sampleT], Acls.none_ _ _, Ats.none_ _ _, by unfold i64; decide, by unfold i64; decide, by unfold i64; decide, by unfold i64; decide⟩⟩

end Go.Proofs.YtmbbmmnpkdfecaaGreatDoor
