/- The law GlobStarSplits returns true at every three strings, and leaves its arguments as they are.
   No condition: every such input, nil slices too. -/
import Derived.Test.YtoeiaffkedkepaaRows
import Derived.Test.YtoeiaffkedkepaaGlobLawSplit
import Derived.ProofKit
import Derived.SizedLaws
import Derived.OpenShut
import Derived.ShutString
import Derived.ChangeMaps5
namespace Go.Proofs.Ytoeiaffkedkepaa.rowGlobStarSplits
open Go.ChangeShapes Go.WideShapes Go.ChangeAt Go.ChangeMaps Go.RowKit

theorem own : ownKnob Try.prog.godebug = none := by kernel_rfl
theorem laidOut : laidOutB Try.prog = true := by kernel_rfl

set_option maxRecDepth 100000 in
theorem lifted (os : Os) (started : os.Started) (H : Type) (enc : TypeId × Value → H) :
    ReturnsInHanded {} Try.checked os 4 .any (Rows.globStarSplitsSpec.pre6 enc Try.prog Try.f4 Rows.globStarSplitsRow.domain false) (Rows.globStarSplitsSpec.post enc Try.prog Try.f4 false true false false) := by
  refine returnsInHanded_of_change_sized (C := Try.checked) own started (by kernel_rfl) Try.func4
    (ChangeSpec.witness6 (enc := enc) (C := Try.checked) false ⟨#[], #[.string ⟨#[]⟩, .string ⟨#[]⟩, .string ⟨#[]⟩], []⟩ 8 (by kernel_rfl) (by kernel_rfl) (by kernel_rfl) (by kernel_rfl)) ?_
  intro W base args ds gs before hval0 hW _ hsz0 _
  have hsz : (DataW.weightsEach Try.prog (Try.f4.params.toList ++ Rows.globStarSplitsSpec.plain.varTypes Try.prog) (ds ++ gs)).all (· ≤ reachBytes) = true := hsz0
  clear hsz0
  have hval : ∀ (j : Nat) t v, Try.f4.params[j]? = some t → args[j]? = some v → Value.okWide Try.prog W .any base t v := hval0
  have hW' := hW
  obtain ⟨p, q, hA0, hV, rfl, _, _⟩ := hW
  have hA : DataW.TrodAll enc Try.prog W 0 (fun _ => true) true Try.f4.params.toList args.toList ds p := hA0
  rw [Try.params4] at hA hval hsz
  clear hA0 hval0
  obtain ⟨v0, t0, d0, e0, p0, q0, ar0, rfl, rfl, h0, r0⟩ := trodAll_cons hA
  obtain ⟨v1, t1, d1, e1, p1, q1, ar1, rfl, rfl, h1, r1⟩ := trodAll_cons r0
  obtain ⟨v2, t2, d2, e2, p2, q2, ar2, rfl, rfl, h2, r2⟩ := trodAll_cons r1
  obtain ⟨rfl, rfl, rfl⟩ := trodAll_nil r2
  subst ar2
  subst ar1
  obtain rfl : args = #[v0, v1, v2] := by cases args; simp_all
  clear ar0
  obtain ⟨rfl, rfl⟩ := trodVars_none hV
  obtain ⟨s0, rfl, rfl, rfl, fs0⟩ := open_string Try.underlying9 (hval 0 9 v0 rfl rfl) h0
  obtain ⟨s1, rfl, rfl, rfl, fs1⟩ := open_string Try.underlying9 (hval 1 9 v1 rfl rfl) h1
  obtain ⟨s2, rfl, rfl, rfl, fs2⟩ := open_string Try.underlying9 (hval 2 9 v2 rfl rfl) h2
  try simp only [List.append_nil] at hW'
  have fin : ∀ W', Below W.heap.size W W' → Rows.globStarSplitsSpec.post enc Try.checked.prog Try.f4 false true false false W #[.string s0, .string s1, .string s2] (.bool true) W' := by
    intro W' hnx
    refine ⟨_, _, _, [] ++ [], [] ++ ([] ++ ([] ++ ([]))), [], hW', ?_, ?_, rfl, hnx.frame _, fun h => by cases h⟩
    · exact trodAll_mk1 (shut_bool Try.underlying4 true)
    · exact trodAll_cons_mk (shut_string Try.underlying9 fs0) (trodAll_cons_mk (shut_string Try.underlying9 fs1) (trodAll_cons_mk (shut_string Try.underlying9 fs2) (trodAll_mk0)))
  refine (lawSplits_any s0 s1 s2 W (Nat.lt_of_le_of_lt (by simpa using sized_string hsz (j := 0) (t := 9) rfl rfl) reachBytes_lt) (Nat.lt_of_le_of_lt (by simpa using sized_string hsz (j := 1) (t := 9) rfl rfl) reachBytes_lt) (Nat.lt_of_le_of_lt (by simpa using sized_string hsz (j := 2) (t := 9) rfl rfl) reachBytes_lt)).mono fun e W' ⟨he, hnx⟩ => ?_
  subst he
  exact ⟨_, rfl, fin W' hnx⟩

theorem holds : Rows.GlobStarSplitsSaid :=
  OpenClaim.holds_of_wide 4 Try.f4 rfl rfl rfl rfl rfl rfl rfl ⟨rfl, rfl, rfl, rfl, rfl⟩ rfl rfl rfl rfl rfl (by kernel_rfl) Try.func4 (by kernel_rfl)
    (of_decide_eq_true (by kernel_rfl)) (by unfold Func.isWrapper; first | (rw [if_pos (by decide +kernel)]; kernel_rfl) | (rw [if_neg (by decide +kernel)]; exact ⟨rfl, rfl⟩))
    (fun os started H enc _ => lifted os started H enc)

end Go.Proofs.Ytoeiaffkedkepaa.rowGlobStarSplits
