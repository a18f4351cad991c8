/- What an argument of type api.Tree reads as: a list of inodes. No condition: every such tree that a machine can hold. -/
import Derived.Test.YtndhhofidkaomaaFsTree
import Derived.Test.YtndhhofidkaomaaAclRow
import Derived.Test.YtndhhofidkaomaaAttrRow

set_option linter.all false
namespace Go.Proofs.Ytndhhofidkaomaa
open Go.ChangeShapes Go.WideShapes Go.ChangeAt Go.RowKit Go.Deep

section
variable {H : Type} {P : Program}
theorem weights_all {e : TypeId} : ∀ {l : List (DataW H)} {d : DataW H}, d ∈ l → ∀ n ∈ d.weights P e, n ∈ DataW.weightsAll P e l
  | [], _, hd, _, _ => absurd hd (by simp)
  | d0 :: l, d, hd, n, hn => by
    simp only [DataW.weightsAll, List.mem_append]
    rcases List.mem_cons.1 hd with rfl | hd
    · exact .inl hn
    · exact .inr (weights_all hd n hn)
/-- All that is read is as large as a machine can hold. -/
def Held (P : Program) (t : TypeId) (d : DataW H) : Prop := ∀ n ∈ d.weights P t, n ≤ reachBytes
theorem Held.slice {t e : TypeId} {elems spare : List (DataW H)} (hu : P.underlying t = some (.slice e)) (h : Held P t (.slice elems spare)) : (elems.length + spare.length) * P.bytesOf e ≤ reachBytes :=
  h _ (by simp [DataW.weights, hu])
theorem Held.elem {t e : TypeId} {elems spare : List (DataW H)} (hu : P.underlying t = some (.slice e)) (h : Held P t (.slice elems spare)) {d : DataW H} (hd : d ∈ elems) : Held P e d := fun n hn => h n (by
  simp only [DataW.weights, hu, List.mem_cons, List.mem_append]
  exact .inr (.inl (weights_all hd n hn)))
theorem Held.field {t : TypeId} {fs : Array Field} {parts : List (DataW H)} (hu : P.underlying t = some (.struct fs)) (h : Held P t (.agg parts)) {j : Nat} {f : Field} {d : DataW H} (hf : fs[j]? = some f) (hd : parts[j]? = some d) : Held P f.type d := fun n hn => h n (by
  simp only [DataW.weights, hu]
  exact DataW.weights_mem_each (j := j) (by simp [List.getElem?_map, Array.getElem?_toList, hf]) hd n hn)
theorem field_of {fs : Array Field} {l : Array (TypeId × Nat)} (h : fs.map (fun f => (f.type, f.offset)) = l) {j o : Nat} {t : TypeId} (hj : l[j]? = some (t, o)) : ∃ f, fs[j]? = some f ∧ f.type = t ∧ f.offset = o := by
  subst h
  rw [Array.getElem?_map] at hj
  cases h1 : fs[j]? with
  | none => rw [h1] at hj; cases hj
  | some f =>
    rw [h1] at hj
    injection hj with hj
    injection hj with h2 h3
    exact ⟨f, rfl, h2, h3⟩
variable {enc : TypeId × Value → H} {w : World} {base : Nat} {spare : Nat → Bool} {held : Bool}
theorem trod_field {t tj : TypeId} {fs : Array Field} {l : Array (TypeId × Nat)} {m j oj : Nat} {cs : List Value} {x : DataW H × List MemPlace} (hu : P.underlying t = some (.struct fs)) (hl : fs.map (fun f => (f.type, f.offset)) = l)
    (h : DataW.trod enc P w base spare held m t cs = some x) (hj : l[j]? = some (tj, oj)) :
    ∃ n y, DataW.trod enc P w base spare held n tj ((cs.drop oj).take (P.cellsOf tj)) = some y ∧ (Held P t x.1 → Held P tj y.1) := by
  obtain ⟨xs, n', _, hx, hlen, hxl, hf⟩ := DataW.trod_struct hu h
  obtain ⟨f, h1, h2, h3⟩ := field_of hl hj
  have h4 := hf j f h1
  rw [h2, h3] at h4
  have hjx : j < xs.length := by
    rw [hxl]
    exact (Array.getElem?_eq_some_iff.1 h1).1
  rw [List.getElem?_eq_getElem hjx] at h4
  refine ⟨n', _, h4, fun hh => ?_⟩
  rw [hx] at hh
  have := hh.field hu h1 (d := xs[j].1) (by rw [List.getElem?_map, List.getElem?_eq_getElem hjx]; rfl)
  rwa [h2] at this
theorem trod_slice_form {t e : TypeId} {m : Nat} {v : Value} {x : DataW H × List MemPlace} (hu : P.underlying t = some (.slice e)) (h : DataW.trod enc P w base spare held m t [v] = some x) : ∃ a n c, v = .slice a n c := by
  rcases open_slice hu h with ⟨hcs, _⟩ | ⟨ad, len, cap, _, _, _, _, hcs, _⟩
  · injection hcs with hcs; exact ⟨_, _, _, hcs⟩
  · injection hcs with hcs; exact ⟨_, _, _, hcs⟩
end

theorem de_under : Try.prog.underlying 49 = some (.struct (Try.prog.fieldsOf 49)) := by kernel_rfl
theorem de_fields : (Try.prog.fieldsOf 49).map (fun f => (f.type, f.offset)) = #[(9, 0), (3, 1)] := by kernel_rfl
theorem de_cells : Try.prog.cellsOf 49 = 2 := by kernel_rfl
theorem de_bytes : Try.prog.bytesOf 49 = 24 := by kernel_rfl
theorem nod_under : Try.prog.underlying 47 = some (.struct (Try.prog.fieldsOf 47)) := by kernel_rfl
theorem nod_fields : (Try.prog.fieldsOf 47).map (fun f => (f.type, f.offset)) = #[(3, 0), (3, 1), (42, 2), (43, 3), (44, 4), (45, 5), (3, 6), (3, 7)] := by kernel_rfl
theorem nod_cells : Try.prog.cellsOf 47 = 8 := by kernel_rfl
theorem nod_bytes : Try.prog.bytesOf 47 = 128 := by kernel_rfl
theorem u8_bytes : Try.prog.bytesOf 5 = 1 := by kernel_rfl
theorem tree_under : Try.prog.underlying 24 = some (.struct (Try.prog.fieldsOf 24)) := by kernel_rfl
theorem tree_fields : (Try.prog.fieldsOf 24).map (fun f => (f.type, f.offset)) = #[(22, 0)] := by kernel_rfl
theorem tree_cells : Try.prog.cellsOf 24 = 1 := by kernel_rfl
theorem sl_cells0 : Try.prog.cellsOf 22 = 1 := by kernel_rfl
theorem sl_cells1 : Try.prog.cellsOf 42 = 1 := by kernel_rfl
theorem sl_cells2 : Try.prog.cellsOf 43 = 1 := by kernel_rfl
theorem sl_cells3 : Try.prog.cellsOf 44 = 1 := by kernel_rfl
theorem sl_cells4 : Try.prog.cellsOf 45 = 1 := by kernel_rfl
theorem one_of {α : Type} {cs : List α} (h : cs.length = 1) : ∃ c0, cs = [c0] := by
  match cs, h with
  | [c0], _ => exact ⟨c0, rfl⟩
theorem eight_of {α : Type} {cs : List α} (h : cs.length = 8) : ∃ c0 c1 c2 c3 c4 c5 c6 c7, cs = [c0, c1, c2, c3, c4, c5, c6, c7] := by
  match cs, h with
  | [c0, c1, c2, c3, c4, c5, c6, c7], _ => exact ⟨c0, c1, c2, c3, c4, c5, c6, c7, rfl⟩
instance nodInhabited : Inhabited Nod := ⟨N0⟩
theorem reach_num : reachBytes = 140737488351232 := by decide

section
variable {H : Type} {enc : TypeId × Value → H} {W : World}
/-- Two cells that read as an entry are a string and an integer. -/
theorem de_of {n : Nat} {cs : List Value} {y : DataW H × List MemPlace}
    (h : DataW.trod enc Try.prog W 0 (fun _ => true) true n 49 cs = some y) : ∃ (x : ByteArray) (i : Int), cs = [.string x, .int .i64 i] ∧ x.size ≤ maxLen ∧ i64 i := by
  obtain ⟨xs, n', _, _, hlen, _, _⟩ := DataW.trod_struct de_under h
  rw [de_cells] at hlen
  obtain ⟨c0, c1, rfl⟩ := two_of hlen
  obtain ⟨_, _, g0, _⟩ := trod_field de_under de_fields h (j := 0) (tj := 9) (oj := 0) rfl
  obtain ⟨_, _, g1, _⟩ := trod_field de_under de_fields h (j := 1) (tj := 3) (oj := 1) rfl
  rw [str_cells] at g0
  rw [int_cells] at g1
  obtain ⟨s, h0, _, f0⟩ := DataW.trod_string Try.underlying9 g0
  obtain ⟨i, h1, _, f1⟩ := DataW.trod_int Try.underlying3 g1
  simp at h0 h1
  exact ⟨s, i, by rw [h0, h1], f0, wf_int f1⟩

set_option maxRecDepth 100000 in
theorem des_of {fuel : Nat} {a : Option Addr} {len cap : Nat} {x : DataW H × List MemPlace}
    (hf : DataW.trod enc Try.prog W 0 (fun _ => true) true fuel 42 [.slice a len cap] = some x) (hw : Held Try.prog 42 x.1) : ∃ es, DEs W W.heap.size (.slice a len cap) es := by
  rcases open_slice Try.underlying42 hf with ⟨hcs, hx⟩ | ⟨ad, len', cap', m, n, D, Pl, hcs, _, hl, hm, hmm, hx, hi⟩
  · simp at hcs
    obtain ⟨rfl, rfl, rfl⟩ := hcs
    exact ⟨[], DEs.none_ _ _⟩
  · simp at hcs
    obtain ⟨rfl, rfl, rfl⟩ := hcs
    simp only [if_true] at hmm
    rw [hx] at hw
    have hr := hw.slice Try.underlying42
    rw [de_bytes, reach_num] at hr
    simp only [List.length_map, List.length_range] at hr
    have key : ∀ i, i < len → ∃ (x : ByteArray) (k : Int), W.cell? (ad.add (i * 2)) = some (.string x) ∧ W.cell? (ad.add (i * 2 + 1)) = some (.int .i64 k) ∧ x.size ≤ maxLen ∧ i64 k := by
      intro i hil
      obtain ⟨cs, hc, ht⟩ := hi i (by omega)
      rw [de_cells] at hc
      obtain ⟨x, k, rfl, fx, fk⟩ := de_of ht
      obtain ⟨_, _, hat⟩ := World.cells?_some hc
      have h0 := hat 0 (by omega)
      have h1 := hat 1 (by omega)
      rw [Go.Deep.add_add] at h0 h1
      exact ⟨x, k, h0, h1, fx, fk⟩
    refine ⟨(List.range len).map (fun i => ⟨strOf ((W.cell? (ad.add (i * 2))).getD undef), intOf ((W.cell? (ad.add (i * 2 + 1))).getD undef)⟩), ⟨some ad, cap, by simp, by simp; omega, by simp; omega, ?_, ?_⟩⟩
    · intro e he
      obtain ⟨i, hil, rfl⟩ := List.mem_map.1 he
      obtain ⟨n0, n1, h0, h1, f0, f1⟩ := key i (List.mem_range.1 hil)
      rw [h0, h1]
      exact ⟨f0, f1⟩
    · intro hp0
      have hp : 0 < len := by simpa using hp0
      clear hp0
      obtain ⟨b, off, spot⟩ := ad
      obtain ⟨n0, _, hc0, _⟩ := key 0 hp
      have hspot : spot = none := by simpa [Addr.add] using World.cell?_spot hc0
      subst hspot
      have hlt : b < W.heap.size := by have := cell_lt hc0; simpa [Addr.add] using this
      refine ⟨b, off, rfl, hlt, fun j hj => ?_⟩
      have hj : j < len := by simpa using hj
      have hg : ∀ g : Nat → DE, ((List.range len).map g).getD j D0 = g j := fun g => by
        rw [List.getD_eq_getElem?_getD, List.getElem?_eq_getElem (by simpa using hj)]; simp
      rw [hg]
      obtain ⟨n0, n1, h0, h1, _, _⟩ := key j hj
      rw [h0, h1]
      rw [add_plain] at h0 h1
      exact ⟨h0, h1⟩

set_option maxRecDepth 100000 in
/-- Eight cells that read as an inode. -/
theorem nod_of {n : Nat} {cs : List Value} {y : DataW H × List MemPlace}
    (h : DataW.trod enc Try.prog W 0 (fun _ => true) true n 47 cs = some y) (hw : Held Try.prog 47 y.1) :
    ∃ ve vd va vx x, cs = [.int .i64 x.k, .int .i64 x.o, ve, vd, va, vx, .int .i64 x.q, .int .i64 x.v] ∧ NodS W W.heap.size ve vd va vx x := by
  obtain ⟨xs, n', _, _, hlen, _, _⟩ := DataW.trod_struct nod_under h
  rw [nod_cells] at hlen
  obtain ⟨c0, c1, c2, c3, c4, c5, c6, c7, rfl⟩ := eight_of hlen
  obtain ⟨_, _, g0, _⟩ := trod_field nod_under nod_fields h (j := 0) (tj := 3) (oj := 0) rfl
  obtain ⟨_, _, g1, _⟩ := trod_field nod_under nod_fields h (j := 1) (tj := 3) (oj := 1) rfl
  obtain ⟨_, y2, g2, w2⟩ := trod_field nod_under nod_fields h (j := 2) (tj := 42) (oj := 2) rfl
  obtain ⟨_, y3, g3, w3⟩ := trod_field nod_under nod_fields h (j := 3) (tj := 43) (oj := 3) rfl
  obtain ⟨_, y4, g4, w4⟩ := trod_field nod_under nod_fields h (j := 4) (tj := 44) (oj := 4) rfl
  obtain ⟨_, y5, g5, w5⟩ := trod_field nod_under nod_fields h (j := 5) (tj := 45) (oj := 5) rfl
  obtain ⟨_, _, g6, _⟩ := trod_field nod_under nod_fields h (j := 6) (tj := 3) (oj := 6) rfl
  obtain ⟨_, _, g7, _⟩ := trod_field nod_under nod_fields h (j := 7) (tj := 3) (oj := 7) rfl
  rw [int_cells] at g0 g1 g6 g7
  rw [sl_cells1] at g2
  rw [sl_cells2] at g3
  rw [sl_cells3] at g4
  rw [sl_cells4] at g5
  replace w2 := w2 hw
  replace w3 := w3 hw
  replace w4 := w4 hw
  replace w5 := w5 hw
  obtain ⟨k, h0, _, f0⟩ := DataW.trod_int Try.underlying3 g0
  obtain ⟨o, h1, _, f1⟩ := DataW.trod_int Try.underlying3 g1
  obtain ⟨q, h6, _, f6⟩ := DataW.trod_int Try.underlying3 g6
  obtain ⟨v, h7, _, f7⟩ := DataW.trod_int Try.underlying3 g7
  simp only [List.drop_succ_cons, List.drop_zero, List.take_succ_cons, List.take_zero] at h0 h1 h6 h7 g2 g3 g4 g5
  injection h0 with h0
  injection h1 with h1
  injection h6 with h6
  injection h7 with h7
  subst h0 h1 h6 h7
  obtain ⟨a2, l2, p2, rfl⟩ := trod_slice_form Try.underlying42 g2
  obtain ⟨a3, l3, p3, rfl⟩ := trod_slice_form Try.underlying43 g3
  obtain ⟨a4, l4, p4, rfl⟩ := trod_slice_form Try.underlying44 g4
  obtain ⟨a5, l5, p5, rfl⟩ := trod_slice_form Try.underlying45 g5
  obtain ⟨es, hE⟩ := des_of g2 w2
  obtain ⟨ac, hA, _⟩ := acls_of g4 (fun elems spare he => by
    rw [he] at w4
    have := w4.slice Try.underlying44
    rwa [ent_bytes, reach_num] at this)
  obtain ⟨ax, hX, _⟩ := ats_of g5 (fun elems spare he => by
    rw [he] at w5
    have := w5.slice Try.underlying45
    rwa [attr_bytes, reach_num] at this)
  have hD : l3 ≤ p3 ∧ l3 ≤ 140737488355328 := by
    rcases open_slice Try.underlying43 g3 with ⟨hcs, hx⟩ | ⟨ad, len', cap', m, n, D, Pl, hcs, _, hl, hm, hmm, hx, hi⟩
    · simp at hcs
      obtain ⟨rfl, rfl, rfl⟩ := hcs
      simp
    · simp at hcs
      obtain ⟨rfl, rfl, rfl⟩ := hcs
      rw [hx] at w3
      have hr := w3.slice Try.underlying43
      rw [u8_bytes, reach_num] at hr
      simp only [List.length_map, List.length_range] at hr
      omega
  exact ⟨_, _, _, _, ⟨k, o, es, l3, ac, ax, q, v⟩, rfl, ⟨hE, ⟨a3, p3, rfl, hD.1⟩, hD.2, hA, hX, wf_int f0, wf_int f1, wf_int f6, wf_int f7⟩⟩

set_option maxRecDepth 100000 in
/-- One cell that reads as a tree. -/
theorem tree_of {n : Nat} {cs : List Value} {y : DataW H × List MemPlace}
    (h : DataW.trod enc Try.prog W 0 (fun _ => true) true n 24 cs = some y) (hw : Held Try.prog 24 y.1) :
    ∃ (a : Option Addr) (c : Nat) (t : Tr), cs = [.slice a t.length c] ∧ Nods W W.heap.size a c t := by
  obtain ⟨xs, n', _, _, hlen, _, _⟩ := DataW.trod_struct tree_under h
  rw [tree_cells] at hlen
  obtain ⟨c0, rfl⟩ := one_of hlen
  obtain ⟨_, y0, g0, w0⟩ := trod_field tree_under tree_fields h (j := 0) (tj := 22) (oj := 0) rfl
  rw [sl_cells0] at g0
  simp only [List.drop_zero, List.take_succ_cons, List.take_zero] at g0
  replace w0 := w0 hw
  rcases open_slice Try.underlying22 g0 with ⟨hcs, hx⟩ | ⟨ad, len, cap, m, n, D, Pl, hcs, _, hl, hm, hmm, hx, hi⟩
  · exact ⟨none, 0, [], by simpa using hcs, ⟨by simp, by simp, fun h => absurd h (by simp)⟩⟩
  · rw [hcs]
    simp only [if_true] at hmm
    rw [hx] at w0
    have hr := w0.slice Try.underlying22
    rw [nod_bytes, reach_num] at hr
    simp only [List.length_map, List.length_range] at hr
    have key : ∀ i, i < len → ∃ x : Nod, ∃ ve vd va vx, (∃ cs', W.cells? 0 (ad.add (i * 8)) 8 = some cs' ∧ cs' = [.int .i64 x.k, .int .i64 x.o, ve, vd, va, vx, .int .i64 x.q, .int .i64 x.v]) ∧ NodS W W.heap.size ve vd va vx x := by
      intro i hil
      obtain ⟨cs', hc, ht⟩ := hi i (by omega)
      rw [nod_cells] at hc
      obtain ⟨ve, vd, va, vx, x, h1, h2⟩ := nod_of ht (w0.elem Try.underlying22 (List.mem_map.2 ⟨i, List.mem_range.2 hil, rfl⟩))
      exact ⟨x, ve, vd, va, vx, ⟨cs', hc, h1⟩, h2⟩
    obtain ⟨X, hX⟩ := choose_lt (α := Nod) (p := fun i x => ∃ ve vd va vx, (∃ cs', W.cells? 0 (ad.add (i * 8)) 8 = some cs' ∧ cs' = [.int .i64 x.k, .int .i64 x.o, ve, vd, va, vx, .int .i64 x.q, .int .i64 x.v]) ∧ NodS W W.heap.size ve vd va vx x) key
    refine ⟨some ad, cap, (List.range len).map X, by simp, ⟨by simp; omega, by simp; omega, fun hp0 => ?_⟩⟩
    have hp : 0 < len := by simpa using hp0
    clear hp0
    obtain ⟨b, off, spot⟩ := ad
    obtain ⟨_, _, _, _, ⟨cs', hc, rfl⟩, _⟩ := hX 0 hp
    obtain ⟨_, _, hat⟩ := World.cells?_some hc
    have hc0 := hat 0 (by omega)
    have hspot : spot = none := by simpa [Addr.add] using World.cell?_spot hc0
    subst hspot
    have hlt : b < W.heap.size := by have := cell_lt hc0; simpa [Addr.add] using this
    clear hc hat hc0
    refine ⟨b, off, rfl, hlt, fun j hj => ?_⟩
    have hj : j < len := by simpa using hj
    have hg : nod ((List.range len).map X) j = X j := by
      unfold nod
      rw [List.getD_eq_getElem?_getD, List.getElem?_eq_getElem (by simpa using hj)]; simp
    rw [hg]
    obtain ⟨ve, vd, va, vx, ⟨cs', hc, rfl⟩, hS⟩ := hX j hj
    obtain ⟨_, _, hat⟩ := World.cells?_some hc
    refine ⟨ve, vd, va, vx, ?_, hS⟩
    have h0 := hat 0 (by omega)
    have h1 := hat 1 (by omega)
    have h2 := hat 2 (by omega)
    have h3 := hat 3 (by omega)
    have h4 := hat 4 (by omega)
    have h5 := hat 5 (by omega)
    have h6 := hat 6 (by omega)
    have h7 := hat 7 (by omega)
    rw [Go.Deep.add_add, add_plain] at h0 h1 h2 h3 h4 h5 h6 h7
    exact ⟨h0, h1, h2, h3, h4, h5, h6, h7⟩
end

end Go.Proofs.Ytndhhofidkaomaa
