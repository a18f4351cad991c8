/- What an argument of type []byte, api.Request or []api.Request reads as: bytes, a request, requests. No condition: every such value that a machine can hold. -/
import Derived.Test.YtfealpehdjeckaaDoorFsArg
import Derived.Test.YtfealpehdjeckaaDoorMfReq
namespace Go.Proofs.YtfealpehdjeckaaDoor
open Go.ChangeShapes Go.WideShapes Go.ChangeAt Go.RowKit Go.Deep

theorem u8_bytes1 : Tryd.prog.bytesOf 5 = 1 := by kernel_rfl
theorem u8_cells1 : Tryd.prog.cellsOf 5 = 1 := by kernel_rfl
theorem u8_ofInt (n : Int) (h0 : 0 ≤ n) (h1 : n ≤ 255) : ((UInt8.ofNat n.toNat).toNat : Int) = n := by
  have : (UInt8.ofNat n.toNat).toNat = n.toNat % 256 := by simp
  omega
theorem rq_under : Tryd.prog.underlying 27 = some (.struct (Tryd.prog.fieldsOf 27)) := by kernel_rfl
theorem rq_fields : (Tryd.prog.fieldsOf 27).map (fun f => (f.type, f.offset)) = #[(3, 0), (3, 1), (9, 2), (9, 3), (3, 4), (3, 5), (22, 6), (23, 7), (25, 8)] := by kernel_rfl
theorem rq_cells10 : Tryd.prog.cellsOf 27 = 10 := by kernel_rfl
theorem rqa_cells : Tryd.prog.cellsOf 23 = 1 := by kernel_rfl
theorem rqb_cells : Tryd.prog.cellsOf 22 = 1 := by kernel_rfl
theorem rqs_cells : Tryd.prog.cellsOf 9 = 1 := by kernel_rfl
theorem rqt_cells : Tryd.prog.cellsOf 25 = 2 := by kernel_rfl
theorem ten_of {cs : List Value} (h : cs.length = 10) : ∃ c0 c1 c2 c3 c4 c5 c6 c7 c8 c9, cs = [c0, c1, c2, c3, c4, c5, c6, c7, c8, c9] := by
  match cs, h with
  | [c0, c1, c2, c3, c4, c5, c6, c7, c8, c9], _ => exact ⟨c0, c1, c2, c3, c4, c5, c6, c7, c8, c9, rfl⟩

section
variable {H : Type} {enc : TypeId × Value → H} {W : World}
set_option maxRecDepth 100000 in
theorem byts_of {fuel : Nat} {a : Option Addr} {len cap : Nat} {x : DataW H × List MemPlace}
    (hf : DataW.trod enc Tryd.prog W 0 (fun _ => true) true fuel 22 [.slice a len cap] = some x) (hw : Held Tryd.prog 22 x.1) : ∃ d, Byts W W.heap.size (.slice a len cap) d := by
  rcases open_slice Tryd.underlying22 hf with ⟨hcs, hx⟩ | ⟨ad, len', cap', m, n, D, Pl, hcs, _, hl, hm, hmm, hx, hi⟩
  · simp at hcs
    obtain ⟨rfl, rfl, rfl⟩ := hcs
    exact ⟨[], Byts.none_ _ _⟩
  · simp at hcs
    obtain ⟨rfl, rfl, rfl⟩ := hcs
    simp only [if_true] at hmm
    rw [hx] at hw
    have hr := hw.slice Tryd.underlying22
    rw [u8_bytes1, reach_num] at hr
    simp only [List.length_map, List.length_range] at hr
    have key : ∀ i, i < len → ∃ n : Int, W.cell? (ad.add i) = some (.int .u8 n) ∧ 0 ≤ n ∧ n ≤ 255 := by
      intro i hil
      obtain ⟨cs, hc, ht⟩ := hi i (by omega)
      rw [u8_cells1] at hc
      obtain ⟨_, hcl, hat⟩ := World.cells?_some hc
      have h0 := hat 0 (by omega)
      rw [Go.Deep.add_add] at h0
      obtain ⟨k, hk, _, fk⟩ := DataW.trod_int Tryd.underlying5 ht
      subst hk
      obtain ⟨z0, z1⟩ := wf_u8 fk
      refine ⟨k, ?_, z0, z1⟩
      simpa using h0
    refine ⟨(List.range len).map (fun i => UInt8.ofNat (intOf ((W.cell? (ad.add i)).getD undef)).toNat), ⟨some ad, cap, by simp, by simp; omega, by simp; omega, fun hp0 => ?_⟩⟩
    have hp : 0 < len := by simpa using hp0
    clear hp0
    obtain ⟨b, off, spot⟩ := ad
    obtain ⟨n0, hc0, _⟩ := key 0 hp
    have hspot : spot = none := by simpa [Addr.add] using World.cell?_spot hc0
    subst hspot
    have hlt : b < W.heap.size := by have := cell_lt hc0; simpa [Addr.add] using this
    refine ⟨b, off, rfl, hlt, fun j hj => ?_⟩
    have hj : j < len := by simpa using hj
    obtain ⟨n0, h0, z0, z1⟩ := key j hj
    have e : ((List.range len).map (fun i => UInt8.ofNat (intOf ((W.cell? ((⟨b, off, none⟩ : Addr).add i)).getD undef)).toNat)).getD j 0 = UInt8.ofNat n0.toNat := by
      rw [List.getD_eq_getElem?_getD, List.getElem?_eq_getElem (by simpa using hj)]
      simp [h0, intOf]
    rw [e, u8_ofInt n0 z0 z1]
    rw [add_plain] at h0
    exact h0

theorem attr2_of {n : Nat} {cs : List Value} {y : DataW H × List MemPlace}
    (h : DataW.trod enc Tryd.prog W 0 (fun _ => true) true n 25 cs = some y) : ∃ (x z : ByteArray), cs = [.string x, .string z] ∧ x.size ≤ maxLen ∧ z.size ≤ maxLen := attr_of h

set_option maxRecDepth 100000 in
/-- Ten cells that read as a request. -/
theorem rq_of {n : Nat} {cs : List Value} {y : DataW H × List MemPlace}
    (h : DataW.trod enc Tryd.prog W 0 (fun _ => true) true n 27 cs = some y) (hw : Held Tryd.prog 27 y.1) :
    ∃ vd va r, cs = [.int .i64 r.k, .int .i64 r.u, .string r.p, .string r.t, .int .i64 r.off, .int .i64 r.sz, vd, va, .string r.a.n, .string r.a.v] ∧ RqS W W.heap.size vd va r := by
  obtain ⟨xs, n', _, _, hlen, _, _⟩ := DataW.trod_struct rq_under h
  rw [rq_cells10] at hlen
  obtain ⟨c0, c1, c2, c3, c4, c5, c6, c7, c8, c9, rfl⟩ := ten_of hlen
  obtain ⟨_, _, g0, _⟩ := trod_field rq_under rq_fields h (j := 0) (tj := 3) (oj := 0) rfl
  obtain ⟨_, _, g1, _⟩ := trod_field rq_under rq_fields h (j := 1) (tj := 3) (oj := 1) rfl
  obtain ⟨_, _, g2, _⟩ := trod_field rq_under rq_fields h (j := 2) (tj := 9) (oj := 2) rfl
  obtain ⟨_, _, g3, _⟩ := trod_field rq_under rq_fields h (j := 3) (tj := 9) (oj := 3) rfl
  obtain ⟨_, _, g4, _⟩ := trod_field rq_under rq_fields h (j := 4) (tj := 3) (oj := 4) rfl
  obtain ⟨_, _, g5, _⟩ := trod_field rq_under rq_fields h (j := 5) (tj := 3) (oj := 5) rfl
  obtain ⟨_, y6, g6, w6⟩ := trod_field rq_under rq_fields h (j := 6) (tj := 22) (oj := 6) rfl
  obtain ⟨_, y7, g7, w7⟩ := trod_field rq_under rq_fields h (j := 7) (tj := 23) (oj := 7) rfl
  obtain ⟨_, _, g8, _⟩ := trod_field rq_under rq_fields h (j := 8) (tj := 25) (oj := 8) rfl
  rw [int_cells] at g0 g1 g4 g5
  rw [rqs_cells] at g2 g3
  rw [rqb_cells] at g6
  rw [rqa_cells] at g7
  rw [rqt_cells] at g8
  replace w6 := w6 hw
  replace w7 := w7 hw
  obtain ⟨k, h0, _, f0⟩ := DataW.trod_int Tryd.underlying3 g0
  obtain ⟨u, h1, _, f1⟩ := DataW.trod_int Tryd.underlying3 g1
  obtain ⟨p, h2, _, f2⟩ := DataW.trod_string Tryd.underlying9 g2
  obtain ⟨t, h3, _, f3⟩ := DataW.trod_string Tryd.underlying9 g3
  obtain ⟨off, h4, _, f4⟩ := DataW.trod_int Tryd.underlying3 g4
  obtain ⟨sz, h5, _, f5⟩ := DataW.trod_int Tryd.underlying3 g5
  obtain ⟨an, av, h8, f8, f9⟩ := attr2_of g8
  simp only [List.drop_succ_cons, List.drop_zero, List.take_succ_cons, List.take_zero] at h0 h1 h2 h3 h4 h5 h8 g6 g7
  injection h0 with h0
  injection h1 with h1
  injection h2 with h2
  injection h3 with h3
  injection h4 with h4
  injection h5 with h5
  injection h8 with h8 h9
  injection h9 with h9
  subst h0 h1 h2 h3 h4 h5 h8 h9
  obtain ⟨a6, l6, p6, rfl⟩ := trod_slice_form Tryd.underlying22 g6
  obtain ⟨a7, l7, p7, rfl⟩ := trod_slice_form Tryd.underlying23 g7
  obtain ⟨d, hD⟩ := byts_of g6 w6
  obtain ⟨ac, hA, _⟩ := acls_of g7 (fun elems spare he => by
    rw [he] at w7
    have := w7.slice Tryd.underlying23
    rwa [ent_bytes, reach_num] at this)
  exact ⟨_, _, ⟨k, u, p, t, off, sz, d, ac, ⟨an, av⟩⟩, rfl, ⟨hD, hA, wf_int f0, wf_int f1, wf_int f4, wf_int f5, f2, f3, ⟨f8, f9⟩⟩⟩
end

end Go.Proofs.YtfealpehdjeckaaDoor
