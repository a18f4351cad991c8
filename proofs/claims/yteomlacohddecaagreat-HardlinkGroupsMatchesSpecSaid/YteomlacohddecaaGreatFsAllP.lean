/- AllPaths at every tree: the fault, or the paths in ascending order. Conditions: the tree's cells lie in memory as they read. -/
import Derived.Test.YteomlacohddecaaGreatFsValid
import Derived.Test.YteomlacohddecaaGreatFsWhere2

set_option linter.all false
namespace Go.Proofs.YteomlacohddecaaGreat
open Go.RowKit

/-- What AllPaths and PathsOf leave: the fault f, or the wanted paths. -/
def PathsPost (t : Tr) (f : Int × Int) (want : Nat → Bool) (w : World) (e : Ending) (w' : World) : Prop :=
  (f.1 ≠ 0 ∧ e = .returned (.tuple #[.slice none 0 0, faultV f.1 f.2]) ∧ Below w.heap.size w w') ∨
  (f = (0, 0) ∧ ∃ v P, e = .returned (.tuple #[v, faultV 0 0]) ∧ AscOf P (pathsW want (visits t 0)) ∧ Strs w' w'.heap.size v P ∧ Below w.heap.size w w')

/-- What PathsPost says, and that the row is the call's own. -/
def PathsOwn (t : Tr) (f : Int × Int) (want : Nat → Bool) (w : World) (e : Ending) (w' : World) : Prop :=
  (f.1 ≠ 0 ∧ e = .returned (.tuple #[.slice none 0 0, faultV f.1 f.2]) ∧ Below w.heap.size w w') ∨
  (f = (0, 0) ∧ ∃ v P, e = .returned (.tuple #[v, faultV 0 0]) ∧ AscOf P (pathsW want (visits t 0)) ∧ Strs w' w'.heap.size v P ∧ Below w.heap.size w w' ∧ w'.ownsRow w.heap.size 9 1 v P.length (P.map Value.string))
theorem PathsOwn.plain {t : Tr} {f : Int × Int} {want : Nat → Bool} {w : World} {e : Ending} {w' : World} (h : PathsOwn t f want w e w') : PathsPost t f want w e w' := by
  rcases h with h | ⟨h, v, P, h1, h2, h3, h4, _⟩
  · exact .inl h
  · exact .inr ⟨h, v, P, h1, h2, h3, h4⟩

theorem PathsPost.bad {t : Tr} {f : Int × Int} {want : Nat → Bool} {w : World} {e : Ending} {w' : World} (h : PathsPost t f want w e w') (hf : f.1 ≠ 0) : e = .returned (.tuple #[.slice none 0 0, .agg #[.int .i64 f.1, .int .i64 f.2]]) ∧ Below w.heap.size w w' := by
  rcases h with ⟨_, h1, h2⟩ | ⟨h1, _⟩
  · exact ⟨h1, h2⟩
  · exact absurd (by rw [h1]) hf
theorem PathsPost.good {t : Tr} {f : Int × Int} {want : Nat → Bool} {w : World} {e : Ending} {w' : World} (h : PathsPost t f want w e w') (hf : f.1 = 0) : ∃ v P, e = .returned (.tuple #[v, .agg #[.int .i64 0, .int .i64 0]]) ∧ AscOf P (pathsW want (visits t 0)) ∧ Strs w' w'.heap.size v P ∧ Below w.heap.size w w' := by
  rcases h with ⟨h1, _⟩ | ⟨_, h1⟩
  · exact absurd hf h1
  · exact h1
theorem AscOf.same {P Q L : List ByteArray} (h1 : AscOf P L) (h2 : AscOf Q L) : P = Q := asc_unique h1.1 h2.1 (fun x => (h1.2 x).trans (h2.2 x).symm)

end Go.Proofs.YteomlacohddecaaGreat
