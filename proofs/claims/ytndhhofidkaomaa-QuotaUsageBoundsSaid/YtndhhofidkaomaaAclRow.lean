/- What an argument of type []api.ACLEntry reads as: a list of entries. No condition: every such slice, nil too. -/
import Derived.Test.YtndhhofidkaomaaAclSlice
import Derived.ProofKit
import Derived.SizedLaws
import Derived.Deep.Slices
import Derived.Deep.Fields
import Derived.ChangeSame

set_option linter.all false
namespace Go.Proofs.Ytndhhofidkaomaa
open Go.ChangeShapes Go.WideShapes Go.ChangeAt Go.RowKit Go.Deep

theorem ent_under : Try.prog.underlying 79 = some (.struct (Try.prog.fieldsOf 79)) := by kernel_rfl
theorem ent_fields : (Try.prog.fieldsOf 79).map (fun f => (f.type, f.offset)) = #[(3, 0), (3, 1), (3, 2)] := by kernel_rfl
theorem int_cells : Try.prog.cellsOf 3 = 1 := by kernel_rfl
theorem ent_cells : Try.prog.cellsOf 79 = 3 := by kernel_rfl
theorem ent_bytes : Try.prog.bytesOf 79 = 24 := by kernel_rfl
theorem ent_field (j : Nat) (hj : j < 3) : ∃ f, (Try.prog.fieldsOf 79)[j]? = some f ∧ f.type = 3 ∧ f.offset = j := by
  have hsz : (Try.prog.fieldsOf 79).size = 3 := by
    have := congrArg Array.size ent_fields
    simpa using this
  have h1 : (Try.prog.fieldsOf 79)[j]? = some ((Try.prog.fieldsOf 79)[j]'(by omega)) := Array.getElem?_eq_getElem (by omega)
  refine ⟨_, h1, ?_⟩
  have h2 := congrArg (fun z => z[j]?) ent_fields
  have h3 : ∀ j, j < 3 → (#[(3, 0), (3, 1), (3, 2)] : Array (TypeId × Nat))[j]? = some (3, j) := by
    intro j hj
    match j, hj with
    | 0, _ => rfl
    | 1, _ => rfl
    | 2, _ => rfl
  simp only [Array.getElem?_map, h1, Option.map_some] at h2
  rw [h3 j hj] at h2
  injection h2 with h2
  injection h2 with h4 h5
  exact ⟨h4, h5⟩

theorem wf_int {n : Int} (hw : (Lit.int .i64 n).wf = true) : i64 n := by
  simp only [Lit.wf, Bool.and_eq_true, decide_eq_true_eq] at hw
  have e1 : IntKind.i64.min = -9223372036854775808 := by decide
  have e2 : IntKind.i64.max = 9223372036854775807 := by decide
  unfold i64; omega
theorem wf_u8 {n : Int} (hw : (Lit.int .u8 n).wf = true) : 0 ≤ n ∧ n ≤ 255 := by
  simp only [Lit.wf, Bool.and_eq_true, decide_eq_true_eq] at hw
  have e1 : IntKind.u8.min = 0 := by decide
  have e2 : IntKind.u8.max = 255 := by decide
  omega


theorem three_of {cs : List Value} (h : cs.length = 3) : ∃ c0 c1 c2, cs = [c0, c1, c2] := by
  match cs, h with
  | [c0, c1, c2], _ => exact ⟨c0, c1, c2, rfl⟩
/-- Three cells that read as an entry are three integers in int64's range. -/
theorem ent_of {H : Type} {enc : TypeId × Value → H} {w : World} {base : Nat} {spare : Nat → Bool} {held : Bool} {n : Nat} {cs : List Value} {y : DataW H × List MemPlace}
    (h : DataW.trod enc Try.prog w base spare held n 79 cs = some y) : ∃ u a d, cs = [.int .i64 u, .int .i64 a, .int .i64 d] ∧ i64 u ∧ i64 a ∧ i64 d := by
  obtain ⟨xs, n', _, _, hlen, hxl, hf⟩ := DataW.trod_struct ent_under h
  rw [ent_cells] at hlen
  have one : ∀ j, j < 3 → ∃ q, (cs.drop j).take 1 = [.int .i64 q] ∧ i64 q := by
    intro j hj
    obtain ⟨f, h1, h2, h3⟩ := ent_field j hj
    have h4 := hf j f h1
    rw [h2, h3, int_cells] at h4
    have hjx : j < xs.length := by
      rw [hxl]
      exact (Array.getElem?_eq_some_iff.1 h1).1
    rw [List.getElem?_eq_getElem hjx] at h4
    obtain ⟨q, h5, _, h6⟩ := DataW.trod_int Try.underlying3 h4
    exact ⟨q, h5, wf_int h6⟩
  obtain ⟨c0, c1, c2, rfl⟩ := three_of hlen
  obtain ⟨u, hu, fu⟩ := one 0 (by omega)
  obtain ⟨a, ha, fa⟩ := one 1 (by omega)
  obtain ⟨d, hd, fd⟩ := one 2 (by omega)
  simp at hu ha hd
  exact ⟨u, a, d, by rw [hu, ha, hd], fu, fa, fd⟩

set_option maxRecDepth 100000 in
theorem acls_of {H : Type} {enc : TypeId × Value → H} {W : World} {fuel : Nat} {a : Option Addr} {len cap : Nat} {x : DataW H × List MemPlace}
    (hf : DataW.trod enc Try.prog W 0 (fun _ => true) true fuel 44 [.slice a len cap] = some x)
    (hreach : ∀ elems spare, x.1 = .slice elems spare → (elems.length + spare.length) * 24 ≤ 140737488351232) : ∃ xs, Acls W W.heap.size (.slice a len cap) xs ∧ xs.length ≤ 5864062014634 := by
  rcases open_slice Try.underlying44 hf with ⟨hcs, hx⟩ | ⟨ad, len', cap', m, n, D, Pl, hcs, _, hl, hm, hmm, hx, hi⟩
  · simp at hcs
    obtain ⟨rfl, rfl, rfl⟩ := hcs
    exact ⟨[], Acls.none_ _ _, by simp⟩
  · simp at hcs
    obtain ⟨rfl, rfl, rfl⟩ := hcs
    simp only [if_true] at hmm
    have hr := hreach _ _ (by rw [hx])
    simp only [List.length_map, List.length_range] at hr
    have key : ∀ i, i < len → ∀ j, j < 3 → ∃ n, W.cell? (ad.add (i * 3 + j)) = some (.int .i64 n) ∧ i64 n := by
      intro i hil j hj
      obtain ⟨cs, hc, ht⟩ := hi i (by omega)
      rw [ent_cells] at hc
      obtain ⟨u, a, d, rfl, fu, fa, fd⟩ := ent_of ht
      obtain ⟨_, _, hat⟩ := World.cells?_some hc
      have h1 := hat j hj
      rw [Go.Deep.add_add] at h1
      match j, hj with
      | 0, _ => exact ⟨u, h1, fu⟩
      | 1, _ => exact ⟨a, h1, fa⟩
      | 2, _ => exact ⟨d, h1, fd⟩
    refine ⟨(List.range len).map (fun i => ⟨intOf ((W.cell? (ad.add (i * 3 + 0))).getD undef), intOf ((W.cell? (ad.add (i * 3 + 1))).getD undef), intOf ((W.cell? (ad.add (i * 3 + 2))).getD undef)⟩), ⟨some ad, cap, by simp, by simp; omega, by simp; omega, ?_, ?_⟩, by simp; omega⟩
    · intro e he
      obtain ⟨i, hil, rfl⟩ := List.mem_map.1 he
      have hil := List.mem_range.1 hil
      obtain ⟨n0, h0, f0⟩ := key i hil 0 (by omega)
      obtain ⟨n1, h1, f1⟩ := key i hil 1 (by omega)
      obtain ⟨n2, h2, f2⟩ := key i hil 2 (by omega)
      rw [h0, h1, h2]
      exact ⟨f0, f1, f2⟩
    · intro hp0
      have hp : 0 < len := by simpa using hp0
      clear hp0
      obtain ⟨b, off, spot⟩ := ad
      obtain ⟨n0, hc0, _⟩ := key 0 hp 0 (by omega)
      have hspot : spot = none := by simpa [Addr.add] using World.cell?_spot hc0
      subst hspot
      have hlt : b < W.heap.size := by have := cell_lt hc0; simpa [Addr.add] using this
      refine ⟨b, off, rfl, hlt, fun j hj => ?_⟩
      have hj : j < len := by simpa using hj
      have hg : ∀ g : Nat → Ent, ((List.range len).map g).getD j E0 = g j := fun g => by
        rw [List.getD_eq_getElem?_getD, List.getElem?_eq_getElem (by simpa using hj)]; simp
      rw [hg]
      obtain ⟨n0, h0, _⟩ := key j hj 0 (by omega)
      obtain ⟨n1, h1, _⟩ := key j hj 1 (by omega)
      obtain ⟨n2, h2, _⟩ := key j hj 2 (by omega)
      rw [h0, h1, h2]
      rw [add_plain] at h0 h1 h2
      exact ⟨h0, h1, h2⟩

end Go.Proofs.Ytndhhofidkaomaa
