/- What an argument of type api.Tree reads as: a list of inodes. No condition: every such tree that a machine can hold. -/
import Derived.Test.YtfealpehdjeckaaDoorFsTree
import Derived.Test.YtfealpehdjeckaaDoorAclRow
import Derived.Test.YtfealpehdjeckaaDoorAttrRow
namespace Go.Proofs.YtfealpehdjeckaaDoor
open Go.ChangeShapes Go.WideShapes Go.ChangeAt Go.RowKit Go.Deep

section
variable {H : Type} {P : Program}
theorem weights_all {e : TypeId} : ∀ {l : List (DataW H)} {d : DataW H}, d ∈ l → ∀ n ∈ d.weights P e, n ∈ DataW.weightsAll P e l
  | [], _, hd, _, _ => absurd hd (by simp)
  | d0 :: l, d, hd, n, hn => by
    simp only [DataW.weightsAll, List.mem_append]
    rcases List.mem_cons.1 hd with rfl | hd
    · exact .inl hn
    · exact .inr (weights_all hd n hn)
/-- All that is read is as large as a machine can hold. -/
def Held (P : Program) (t : TypeId) (d : DataW H) : Prop := ∀ n ∈ d.weights P t, n ≤ reachBytes
theorem Held.slice {t e : TypeId} {elems spare : List (DataW H)} (hu : P.underlying t = some (.slice e)) (h : Held P t (.slice elems spare)) : (elems.length + spare.length) * P.bytesOf e ≤ reachBytes :=
  h _ (by simp [DataW.weights, hu])
theorem Held.elem {t e : TypeId} {elems spare : List (DataW H)} (hu : P.underlying t = some (.slice e)) (h : Held P t (.slice elems spare)) {d : DataW H} (hd : d ∈ elems) : Held P e d := fun n hn => h n (by
  simp only [DataW.weights, hu, List.mem_cons, List.mem_append]
  exact .inr (.inl (weights_all hd n hn)))
theorem Held.field {t : TypeId} {fs : Array Field} {parts : List (DataW H)} (hu : P.underlying t = some (.struct fs)) (h : Held P t (.agg parts)) {j : Nat} {f : Field} {d : DataW H} (hf : fs[j]? = some f) (hd : parts[j]? = some d) : Held P f.type d := fun n hn => h n (by
  simp only [DataW.weights, hu]
  exact DataW.weights_mem_each (j := j) (by simp [List.getElem?_map, Array.getElem?_toList, hf]) hd n hn)
theorem field_of {fs : Array Field} {l : Array (TypeId × Nat)} (h : fs.map (fun f => (f.type, f.offset)) = l) {j o : Nat} {t : TypeId} (hj : l[j]? = some (t, o)) : ∃ f, fs[j]? = some f ∧ f.type = t ∧ f.offset = o := by
  subst h
  rw [Array.getElem?_map] at hj
  cases h1 : fs[j]? with
  | none => rw [h1] at hj; cases hj
  | some f =>
    rw [h1] at hj
    injection hj with hj
    injection hj with h2 h3
    exact ⟨f, rfl, h2, h3⟩
variable {enc : TypeId × Value → H} {w : World} {base : Nat} {spare : Nat → Bool} {held : Bool}
theorem trod_field {t tj : TypeId} {fs : Array Field} {l : Array (TypeId × Nat)} {m j oj : Nat} {cs : List Value} {x : DataW H × List MemPlace} (hu : P.underlying t = some (.struct fs)) (hl : fs.map (fun f => (f.type, f.offset)) = l)
    (h : DataW.trod enc P w base spare held m t cs = some x) (hj : l[j]? = some (tj, oj)) :
    ∃ n y, DataW.trod enc P w base spare held n tj ((cs.drop oj).take (P.cellsOf tj)) = some y ∧ (Held P t x.1 → Held P tj y.1) := by
  obtain ⟨xs, n', _, hx, hlen, hxl, hf⟩ := DataW.trod_struct hu h
  obtain ⟨f, h1, h2, h3⟩ := field_of hl hj
  have h4 := hf j f h1
  rw [h2, h3] at h4
  have hjx : j < xs.length := by
    rw [hxl]
    exact (Array.getElem?_eq_some_iff.1 h1).1
  rw [List.getElem?_eq_getElem hjx] at h4
  refine ⟨n', _, h4, fun hh => ?_⟩
  rw [hx] at hh
  have := hh.field hu h1 (d := xs[j].1) (by rw [List.getElem?_map, List.getElem?_eq_getElem hjx]; rfl)
  rwa [h2] at this
theorem trod_slice_form {t e : TypeId} {m : Nat} {v : Value} {x : DataW H × List MemPlace} (hu : P.underlying t = some (.slice e)) (h : DataW.trod enc P w base spare held m t [v] = some x) : ∃ a n c, v = .slice a n c := by
  rcases open_slice hu h with ⟨hcs, _⟩ | ⟨ad, len, cap, _, _, _, _, hcs, _⟩
  · injection hcs with hcs; exact ⟨_, _, _, hcs⟩
  · injection hcs with hcs; exact ⟨_, _, _, hcs⟩
end

theorem u8_bytes : Tryd.prog.bytesOf 5 = 1 := by kernel_rfl
theorem sl_cells2 : Tryd.prog.cellsOf 22 = 1 := by kernel_rfl
theorem sl_cells3 : Tryd.prog.cellsOf 23 = 1 := by kernel_rfl
theorem sl_cells4 : Tryd.prog.cellsOf 45 = 1 := by kernel_rfl
theorem one_of {α : Type} {cs : List α} (h : cs.length = 1) : ∃ c0, cs = [c0] := by
  match cs, h with
  | [c0], _ => exact ⟨c0, rfl⟩
theorem eight_of {α : Type} {cs : List α} (h : cs.length = 8) : ∃ c0 c1 c2 c3 c4 c5 c6 c7, cs = [c0, c1, c2, c3, c4, c5, c6, c7] := by
  match cs, h with
  | [c0, c1, c2, c3, c4, c5, c6, c7], _ => exact ⟨c0, c1, c2, c3, c4, c5, c6, c7, rfl⟩
instance nodInhabited : Inhabited Nod := ⟨N0⟩
theorem reach_num : reachBytes = 140737488351232 := by decide

section
variable {H : Type} {enc : TypeId × Value → H} {W : World}
end

end Go.Proofs.YtfealpehdjeckaaDoor
