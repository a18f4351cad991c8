/- Diff's constant: from the nil list to a = b. Plain facts; an append of attributes as a step of a region that draws its order. -/
import Derived.Test.YtgbmbhcoelijfaaAttrDiff
import Derived.Test.YtgbmbhcoelijfaaAttrConst
namespace Go.Proofs.Ytgbmbhcoelijfaa
open Go.RowKit

theorem namesB_one (a : Attr) : namesB [a] = [a.n] := by
  refine asc_unique (names_asc _) (by unfold Asc; simp) fun x => ?_
  rw [names_mem]
  constructor
  · rintro ⟨b, hb, rfl⟩; rw [List.mem_singleton.1 hb]; simp
  · intro hx; exact ⟨a, by simp, (List.mem_singleton.1 hx).symm⟩
theorem getA_ab : getA [⟨bA, bB⟩] bA = bB := by rw [getA_cons]; simp
theorem chk_ab : chkF [[], [⟨bA, bB⟩]] = (0, 0) := chk_miss fun j hj => by
  match j, hj with
  | 0, _ => show (valA []).1 = 0; rw [good_nil.val]
  | 1, _ => show (valA [⟨bA, bB⟩]).1 = 0; rw [good_ab.val]
theorem diffO_ab : diffO [] [⟨bA, bB⟩] = [⟨bA, bB⟩] := by
  unfold diffO
  rw [chk_ab, if_pos rfl]
  unfold diffL
  have e : ([[], [⟨bA, bB⟩]] : List (List Attr)).flatten = [⟨bA, bB⟩] := rfl
  rw [e, namesB_one]
  unfold diffK dif1
  simp [getA_ab, getA_nil, bB_ne]
def OneDiff (w : World) (e : Ending) (w' : World) : Prop :=
  ∃ a c, e = .returned (.tuple #[.slice a 1 c, .agg #[.int .i64 0, .int .i64 0]]) ∧ Below w.heap.size w w'
theorem diffOne_any (v : Value) (w : World) (h : Ats w w.heap.size v [⟨bA, bB⟩]) : Calls Try.prog 19 #[.slice none 0 0, v] w (OneDiff w) := by
  refine (diff_any _ v [] [⟨bA, bB⟩] w (Ats.none_ _ _) h).mono fun e w' ⟨v', he, hA, hb⟩ => ?_
  rw [chk_ab] at he
  rw [diffO_ab] at hA
  obtain ⟨a, c, rfl, _⟩ := hA.form (n := 1) rfl
  exact ⟨a, c, he, hb⟩

/-- An append of a list of attributes to an owned row, as a step of a region that draws its order. -/
theorem step_append_attrs {w : World} {ops : Array Oper} {o : Oper} {a : Act} {K : Act → World → Prop} {Q : Exit → Act → World → Prop} {E : Prop} (hgd : o.guard = none) (s x : Operand)
    (ho : o.op = .call { callee := .builtin .append, args := #[s, x], argTypes := #[22, 22] })
    (base : Nat) (v : Value) (n : Nat) (xs : List Attr) (hs : a.eval s = v) (hown : w.ownsRow base 27 2 v n (flatA xs))
    (g : Nat) (e : Attr) (hx : a.eval x = .slice (some ⟨g, 0, none⟩) 1 1) (h0 : w.cell? ⟨g, 0, none⟩ = some (.string e.n)) (h1 : w.cell? ⟨g, 1, none⟩ = some (.string e.v))
    (hn : n ≤ 100000) (hbase : base ≤ w.heap.size)
    (hK : ∀ v' w', w'.ownsRow base 27 2 v' (n + 1) (flatA (xs ++ [e])) → w.grownBy w' v.ownBlock → K (a.put o.dst v') w') :
    if Region.wanted o (yielded ops a.tmps) = true then Oper.wp Try.prog o a w K Q else E := by
  have hw : Region.wanted o (yielded ops a.tmps) = true := by simp [Region.wanted, hgd]
  rw [if_pos hw]
  obtain ⟨i, hi, hz0, hz1, hz2⟩ := info_parts attr_info
  obtain ⟨v', w', hrun, r1, r2, _⟩ := run_append_own (P := Try.prog) w base 22 o.type 27 i _ 2 32 Try.underlying22 hi hz0 hz1 hz2 rfl (by decide) v n (flatA xs) hown ⟨g, 0, none⟩ 1 1 (flatA [e]) (flatA_len [e]) (by
    intro j u hu
    have hl : j < 2 := by
      have := (List.getElem?_eq_some_iff.1 hu).1
      rw [flatA_len] at this; simpa using this
    obtain ⟨f0, f1⟩ := flatA_get [e] 0 (by simp)
    have hadd : (⟨g, 0, none⟩ : Addr).add j = ⟨g, j, none⟩ := by unfold Addr.add; split <;> simp_all
    rw [hadd]
    rcases (show j = 0 ∨ j = 1 by omega) with rfl | rfl
    · rw [show (0 : Nat) = 0 * 2 from rfl] at hu
      rw [f0] at hu
      rw [← Option.some.inj hu]; exact h0
    · rw [show (1 : Nat) = 0 * 2 + 1 from rfl] at hu
      rw [f1] at hu
      rw [← Option.some.inj hu]; exact h1) (flatA_one _) (by unfold maxLen; omega) (by omega) hbase
  unfold Oper.wp
  simp [execOp, ho, resolve, invoke, builtin, hs, hx, hrun, Result.andThen]
  exact hK v' w' (by rw [flatA_append]; exact r1) r2

end Go.Proofs.Ytgbmbhcoelijfaa
