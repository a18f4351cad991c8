/- XattrMergeSymmetric: for every three attribute lists, merging the two sides in the opposite order reports the same conflicts and, without conflicts, the same list; merging with an unchanged side gives the other side with no conflict; a refused merge gives nothing on one side at least; the lists are left as they were.
   No condition: every such input, nil slices too. -/
import Derived.Test.YtgbmbhcoelijfaaRows
import Derived.Test.YtgbmbhcoelijfaaAttrLawSym
import Derived.Test.YtgbmbhcoelijfaaAttrRow
import Derived.ProofKit
import Derived.SizedLaws
import Derived.OpenShut
import Derived.ShutString
import Derived.ChangeMaps5
namespace Go.Proofs.Ytgbmbhcoelijfaa.rowXattrMergeSymmetric
open Go.ChangeShapes Go.WideShapes Go.ChangeAt Go.ChangeMaps Go.RowKit

theorem own : ownKnob Try.prog.godebug = none := by kernel_rfl
theorem laidOut : laidOutB Try.prog = true := by kernel_rfl

set_option maxRecDepth 100000 in
theorem lifted (os : Os) (started : os.Started) (H : Type) (enc : TypeId × Value → H) :
    ReturnsInHanded {} Try.checked os 9 .any (Rows.xattrMergeSymmetricSpec.pre6 enc Try.prog Try.f9 Rows.xattrMergeSymmetricRow.domain false) (Rows.xattrMergeSymmetricSpec.post enc Try.prog Try.f9 false true false false) := by
  refine returnsInHanded_of_change_sized (C := Try.checked) own started (by kernel_rfl) Try.func9
    (ChangeSpec.witness6 (enc := enc) (C := Try.checked) false ⟨#[], #[.slice none 0 0, .slice none 0 0, .slice none 0 0], []⟩ 8 (by kernel_rfl) (by kernel_rfl) (by kernel_rfl) (by kernel_rfl)) ?_
  intro W base args ds gs before hval0 hW _ hsz0 _
  have hsz : (DataW.weightsEach Try.prog (Try.f9.params.toList ++ Rows.xattrMergeSymmetricSpec.plain.varTypes Try.prog) (ds ++ gs)).all (· ≤ reachBytes) = true := hsz0
  clear hsz0
  have hval : ∀ (j : Nat) t v, Try.f9.params[j]? = some t → args[j]? = some v → Value.okWide Try.prog W .any base t v := hval0
  have hW' := hW
  obtain ⟨p, q, hA0, hV, rfl, _, _⟩ := hW
  have hA : DataW.TrodAll enc Try.prog W 0 (fun _ => true) true Try.f9.params.toList args.toList ds p := hA0
  rw [Try.params9] at hA hval hsz
  clear hA0 hval0
  obtain ⟨v0, t0, d0, e0, p0, q0, ar0, rfl, rfl, h0, r0⟩ := trodAll_cons hA
  obtain ⟨v1, t1, d1, e1, p1, q1, ar1, rfl, rfl, h1, r1⟩ := trodAll_cons r0
  obtain ⟨v2, t2, d2, e2, p2, q2, ar2, rfl, rfl, h2, r2⟩ := trodAll_cons r1
  obtain ⟨rfl, rfl, rfl⟩ := trodAll_nil r2
  subst ar2
  subst ar1
  obtain rfl : args = #[v0, v1, v2] := by cases args; simp_all
  clear ar0
  obtain ⟨rfl, rfl⟩ := trodVars_none hV
  obtain ⟨a0, l0, c0, rfl⟩ := okWide_slice Try.underlying22 (hval 0 22 v0 rfl rfl)
  have k0 := h0
  obtain ⟨fuel0, f0⟩ := h0
  obtain ⟨a1, l1, c1, rfl⟩ := okWide_slice Try.underlying22 (hval 1 22 v1 rfl rfl)
  have k1 := h1
  obtain ⟨fuel1, f1⟩ := h1
  obtain ⟨a2, l2, c2, rfl⟩ := okWide_slice Try.underlying22 (hval 2 22 v2 rfl rfl)
  have k2 := h2
  obtain ⟨fuel2, f2⟩ := h2
  try simp only [List.append_nil] at hW'
  have hlt : ∀ x ∈ p0 ++ (p1 ++ (p2 ++ ([]))), x.block < W.heap.size := fun x hx => hW'.lt x (by first | exact hx | simpa using hx)
  have fin : ∀ W', Below W.heap.size W W' → Rows.xattrMergeSymmetricSpec.post enc Try.checked.prog Try.f9 false true false false W #[.slice a0 l0 c0, .slice a1 l1 c1, .slice a2 l2 c2] (.bool true) W' := by
    intro W' hnx
    refine ⟨_, _, _, [] ++ [], p0 ++ (p1 ++ (p2 ++ ([]))), [], hW', ?_, ?_, rfl, hnx.frame _, fun h => by cases h⟩
    · exact trodAll_mk1 (shut_bool Try.underlying4 true)
    · exact trodAll_cons_mk (Below.trod laidOut (by kernel_rfl) (of_decide_eq_true (by kernel_rfl)) k0 hnx (fun x hx => hlt x (by simp [hx]))) (trodAll_cons_mk (Below.trod laidOut (by kernel_rfl) (of_decide_eq_true (by kernel_rfl)) k1 hnx (fun x hx => hlt x (by simp [hx]))) (trodAll_cons_mk (Below.trod laidOut (by kernel_rfl) (of_decide_eq_true (by kernel_rfl)) k2 hnx (fun x hx => hlt x (by simp [hx]))) (trodAll_mk0)))
  obtain ⟨xs0, hS0, hL0⟩ := ats_of f0 (fun elems spare he => by
    have hd : d0 = .slice elems spare := he
    subst hd
    have := sized_slice hsz (j := 0) (t := 22) (e := 27) rfl rfl Try.underlying22
    rwa [attr_bytes] at this)
  obtain ⟨xs1, hS1, hL1⟩ := ats_of f1 (fun elems spare he => by
    have hd : d1 = .slice elems spare := he
    subst hd
    have := sized_slice hsz (j := 1) (t := 22) (e := 27) rfl rfl Try.underlying22
    rwa [attr_bytes] at this)
  obtain ⟨xs2, hS2, hL2⟩ := ats_of f2 (fun elems spare he => by
    have hd : d2 = .slice elems spare := he
    subst hd
    have := sized_slice hsz (j := 2) (t := 22) (e := 27) rfl rfl Try.underlying22
    rwa [attr_bytes] at this)
  refine (lawSym_any _ xs0 _ xs1 _ xs2 W hS0 hS1 hS2).mono fun e W' ⟨he, hnx⟩ => ?_
  subst he
  exact ⟨_, rfl, fin W' hnx⟩

theorem holds : Rows.XattrMergeSymmetricSaid :=
  OpenClaim.holds_of_wide 9 Try.f9 rfl rfl rfl rfl rfl rfl rfl ⟨rfl, rfl, rfl, rfl, rfl⟩ rfl rfl rfl rfl rfl (by kernel_rfl) Try.func9 (by kernel_rfl)
    (of_decide_eq_true (by kernel_rfl)) (by unfold Func.isWrapper; first | (rw [if_pos (by decide +kernel)]; kernel_rfl) | (rw [if_neg (by decide +kernel)]; exact ⟨rfl, rfl⟩))
    (fun os started H enc _ => lifted os started H enc)

end Go.Proofs.Ytgbmbhcoelijfaa.rowXattrMergeSymmetric
