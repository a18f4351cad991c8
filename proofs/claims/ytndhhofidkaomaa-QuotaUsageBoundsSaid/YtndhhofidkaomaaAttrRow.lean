/- What an argument of type []api.Attr or api.Attr reads as: a list of attributes, an attribute. No condition: every such slice, nil too. -/
import Derived.Test.YtndhhofidkaomaaAttrSlice
import Derived.ProofKit
import Derived.SizedLaws
import Derived.Deep.Slices
import Derived.Deep.Fields
import Derived.ChangeSame

set_option linter.all false
namespace Go.Proofs.Ytndhhofidkaomaa
open Go.ChangeShapes Go.WideShapes Go.ChangeAt Go.RowKit Go.Deep

theorem attr_under : Try.prog.underlying 82 = some (.struct (Try.prog.fieldsOf 82)) := by kernel_rfl
theorem attr_fields : (Try.prog.fieldsOf 82).map (fun f => (f.type, f.offset)) = #[(9, 0), (9, 1)] := by kernel_rfl
theorem str_cells : Try.prog.cellsOf 9 = 1 := by kernel_rfl
theorem attr_cells : Try.prog.cellsOf 82 = 2 := by kernel_rfl
theorem attr_bytes : Try.prog.bytesOf 82 = 32 := by kernel_rfl
theorem attr_field (j : Nat) (hj : j < 2) : ∃ f, (Try.prog.fieldsOf 82)[j]? = some f ∧ f.type = 9 ∧ f.offset = j := by
  have hsz : (Try.prog.fieldsOf 82).size = 2 := by
    have := congrArg Array.size attr_fields
    simpa using this
  have h1 : (Try.prog.fieldsOf 82)[j]? = some ((Try.prog.fieldsOf 82)[j]'(by omega)) := Array.getElem?_eq_getElem (by omega)
  refine ⟨_, h1, ?_⟩
  have h2 := congrArg (fun z => z[j]?) attr_fields
  have h3 : ∀ j, j < 2 → (#[(9, 0), (9, 1)] : Array (TypeId × Nat))[j]? = some (9, j) := by
    intro j hj
    match j, hj with
    | 0, _ => rfl
    | 1, _ => rfl
  simp only [Array.getElem?_map, h1, Option.map_some] at h2
  rw [h3 j hj] at h2
  injection h2 with h2
  injection h2 with h4 h5
  exact ⟨h4, h5⟩


theorem two_of {cs : List Value} (h : cs.length = 2) : ∃ c0 c1, cs = [c0, c1] := by
  match cs, h with
  | [c0, c1], _ => exact ⟨c0, c1, rfl⟩
/-- Two cells that read as an attribute are two strings of a length that the model holds. -/
theorem attr_of {H : Type} {enc : TypeId × Value → H} {w : World} {base : Nat} {spare : Nat → Bool} {held : Bool} {n : Nat} {cs : List Value} {y : DataW H × List MemPlace}
    (h : DataW.trod enc Try.prog w base spare held n 82 cs = some y) : ∃ x z, cs = [.string x, .string z] ∧ x.size ≤ maxLen ∧ z.size ≤ maxLen := by
  obtain ⟨xs, n', _, _, hlen, hxl, hf⟩ := DataW.trod_struct attr_under h
  rw [attr_cells] at hlen
  have one : ∀ j, j < 2 → ∃ q : ByteArray, (cs.drop j).take 1 = [.string q] ∧ q.size ≤ maxLen := by
    intro j hj
    obtain ⟨f, h1, h2, h3⟩ := attr_field j hj
    have h4 := hf j f h1
    rw [h2, h3, str_cells] at h4
    have hjx : j < xs.length := by
      rw [hxl]
      exact (Array.getElem?_eq_some_iff.1 h1).1
    rw [List.getElem?_eq_getElem hjx] at h4
    obtain ⟨q, h5, _, h6⟩ := DataW.trod_string Try.underlying9 h4
    exact ⟨q, h5, h6⟩
  obtain ⟨c0, c1, rfl⟩ := two_of hlen
  obtain ⟨x, hx, fx⟩ := one 0 (by omega)
  obtain ⟨z, hz, fz⟩ := one 1 (by omega)
  simp at hx hz
  exact ⟨x, z, by rw [hx, hz], fx, fz⟩
def strOf : Value → ByteArray
  | .string s => s
  | _ => ByteArray.empty

set_option maxRecDepth 100000 in
theorem ats_of {H : Type} {enc : TypeId × Value → H} {W : World} {fuel : Nat} {a : Option Addr} {len cap : Nat} {x : DataW H × List MemPlace}
    (hf : DataW.trod enc Try.prog W 0 (fun _ => true) true fuel 45 [.slice a len cap] = some x)
    (hreach : ∀ elems spare, x.1 = .slice elems spare → (elems.length + spare.length) * 32 ≤ 140737488351232) : ∃ xs, Ats W W.heap.size (.slice a len cap) xs ∧ xs.length ≤ 4398046510976 := by
  rcases open_slice Try.underlying45 hf with ⟨hcs, hx⟩ | ⟨ad, len', cap', m, n, D, Pl, hcs, _, hl, hm, hmm, hx, hi⟩
  · simp at hcs
    obtain ⟨rfl, rfl, rfl⟩ := hcs
    exact ⟨[], Ats.none_ _ _, by simp⟩
  · simp at hcs
    obtain ⟨rfl, rfl, rfl⟩ := hcs
    simp only [if_true] at hmm
    have hr := hreach _ _ (by rw [hx])
    simp only [List.length_map, List.length_range] at hr
    have key : ∀ i, i < len → ∀ j, j < 2 → ∃ n : ByteArray, W.cell? (ad.add (i * 2 + j)) = some (.string n) ∧ n.size ≤ maxLen := by
      intro i hil j hj
      obtain ⟨cs, hc, ht⟩ := hi i (by omega)
      rw [attr_cells] at hc
      obtain ⟨u, v, rfl, fu, fv⟩ := attr_of ht
      obtain ⟨_, _, hat⟩ := World.cells?_some hc
      have h1 := hat j hj
      rw [Go.Deep.add_add] at h1
      match j, hj with
      | 0, _ => exact ⟨u, h1, fu⟩
      | 1, _ => exact ⟨v, h1, fv⟩
    refine ⟨(List.range len).map (fun i => ⟨strOf ((W.cell? (ad.add (i * 2 + 0))).getD undef), strOf ((W.cell? (ad.add (i * 2 + 1))).getD undef)⟩), ⟨some ad, cap, by simp, by simp; omega, by simp; omega, ?_, ?_⟩, by simp; omega⟩
    · intro e he
      obtain ⟨i, hil, rfl⟩ := List.mem_map.1 he
      have hil := List.mem_range.1 hil
      obtain ⟨n0, h0, f0⟩ := key i hil 0 (by omega)
      obtain ⟨n1, h1, f1⟩ := key i hil 1 (by omega)
      rw [h0, h1]
      exact ⟨f0, f1⟩
    · intro hp0
      have hp : 0 < len := by simpa using hp0
      clear hp0
      obtain ⟨b, off, spot⟩ := ad
      obtain ⟨n0, hc0, _⟩ := key 0 hp 0 (by omega)
      have hspot : spot = none := by simpa [Addr.add] using World.cell?_spot hc0
      subst hspot
      have hlt : b < W.heap.size := by have := cell_lt hc0; simpa [Addr.add] using this
      refine ⟨b, off, rfl, hlt, fun j hj => ?_⟩
      have hj : j < len := by simpa using hj
      have hg : ∀ g : Nat → Attr, ((List.range len).map g).getD j A0 = g j := fun g => by
        rw [List.getD_eq_getElem?_getD, List.getElem?_eq_getElem (by simpa using hj)]; simp
      rw [hg]
      obtain ⟨n0, h0, _⟩ := key j hj 0 (by omega)
      obtain ⟨n1, h1, _⟩ := key j hj 1 (by omega)
      rw [h0, h1]
      rw [add_plain] at h0 h1
      exact ⟨h0, h1⟩

end Go.Proofs.Ytndhhofidkaomaa
