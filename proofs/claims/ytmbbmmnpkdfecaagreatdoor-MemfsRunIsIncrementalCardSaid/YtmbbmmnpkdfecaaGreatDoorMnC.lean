/- What a law of package memfs or of its neighbours needs, at the translation of this seat.
   Condition: as each theorem states; this text: MfArg3, MfLawInc3. -/
import Derived.Test.YtmbbmmnpkdfecaaGreatDoorMb32
import Derived.Test.YtmbbmmnpkdfecaaGreatDoorMnB

set_option linter.all false

/- What an argument of type []api.Request reads as: a list of requests. No condition: every such slice, nil too. -/

set_option linter.all false
namespace Go.Proofs.YtmbbmmnpkdfecaaGreatDoor
open Go.ChangeShapes Go.WideShapes Go.ChangeAt Go.RowKit Go.Deep

instance : Inhabited Rq := ⟨R0⟩
theorem rq_bytes : Tryz.prog.bytesOf 30 = 144 := by kernel_rfl

section
variable {H : Type} {enc : TypeId × Value → H} {W : World}
set_option maxRecDepth 100000 in
/-- One slice value that reads as a list of requests. -/
theorem rqs_of {fuel : Nat} {a : Option Addr} {len cap : Nat} {x : DataW H × List MemPlace}
    (hf : DataW.trod enc Tryz.prog W 0 (fun _ => true) true fuel 48 [.slice a len cap] = some x) (hw : Held Tryz.prog 48 x.1) : ∃ l : List Rq, len = l.length ∧ Rqs W W.heap.size a cap l := by
  rcases open_slice Tryz.underlying48 hf with ⟨hcs, hx⟩ | ⟨ad, len', cap', m, n, D, Pl, hcs, _, hl, hm, hmm, hx, hi⟩
  · simp at hcs
    obtain ⟨rfl, rfl, rfl⟩ := hcs
    exact ⟨[], rfl, ⟨by simp, by simp, fun h => absurd h (by simp)⟩⟩
  · simp at hcs
    obtain ⟨rfl, rfl, rfl⟩ := hcs
    simp only [if_true] at hmm
    rw [hx] at hw
    have hr := hw.slice Tryz.underlying48
    rw [rq_bytes, reach_num] at hr
    simp only [List.length_map, List.length_range] at hr
    have key : ∀ i, i < len → ∃ r : Rq, ∃ vd va, (∃ cs', W.cells? 0 (ad.add (i * 10)) 10 = some cs' ∧ cs' = [.int .i64 r.k, .int .i64 r.u, .string r.p, .string r.t, .int .i64 r.off, .int .i64 r.sz, vd, va, .string r.a.n, .string r.a.v]) ∧ RqS W W.heap.size vd va r := by
      intro i hil
      obtain ⟨cs', hc, ht⟩ := hi i (by omega)
      rw [rq_cells10] at hc
      obtain ⟨vd, va, r, h1, h2⟩ := rq_of ht (hw.elem Tryz.underlying48 (List.mem_map.2 ⟨i, List.mem_range.2 hil, rfl⟩))
      exact ⟨r, vd, va, ⟨cs', hc, h1⟩, h2⟩
    obtain ⟨X, hX⟩ := choose_lt (α := Rq) (p := fun i r => ∃ vd va, (∃ cs', W.cells? 0 (ad.add (i * 10)) 10 = some cs' ∧ cs' = [.int .i64 r.k, .int .i64 r.u, .string r.p, .string r.t, .int .i64 r.off, .int .i64 r.sz, vd, va, .string r.a.n, .string r.a.v]) ∧ RqS W W.heap.size vd va r) key
    refine ⟨(List.range len).map X, by simp, ⟨by simp; omega, by simp; omega, fun hp0 => ?_⟩⟩
    have hp : 0 < len := by simpa using hp0
    clear hp0
    obtain ⟨b, off, spot⟩ := ad
    obtain ⟨_, _, ⟨cs', hc, rfl⟩, _⟩ := hX 0 hp
    obtain ⟨_, _, hat⟩ := World.cells?_some hc
    have hc0 := hat 0 (by omega)
    have hspot : spot = none := by simpa [Addr.add] using World.cell?_spot hc0
    subst hspot
    have hlt : b < W.heap.size := by have := cell_lt hc0; simpa [Addr.add] using this
    clear hc hat hc0
    refine ⟨b, off, rfl, hlt, fun j hj => ?_⟩
    have hj : j < len := by simpa using hj
    have hg : ((List.range len).map X).getD j R0 = X j := by
      rw [List.getD_eq_getElem?_getD, List.getElem?_eq_getElem (by simpa using hj)]; simp
    rw [hg]
    obtain ⟨vd, va, ⟨cs', hc, rfl⟩, hS⟩ := hX j hj
    obtain ⟨_, _, hat⟩ := World.cells?_some hc
    refine ⟨vd, va, ?_, hS⟩
    have h0 := hat 0 (by omega)
    have h1 := hat 1 (by omega)
    have h2 := hat 2 (by omega)
    have h3 := hat 3 (by omega)
    have h4 := hat 4 (by omega)
    have h5 := hat 5 (by omega)
    have h6 := hat 6 (by omega)
    have h7 := hat 7 (by omega)
    have h8 := hat 8 (by omega)
    have h9 := hat 9 (by omega)
    rw [Go.Deep.add_add, add_plain] at h0 h1 h2 h3 h4 h5 h6 h7 h8 h9
    exact ⟨h0, h1, h2, h3, h4, h5, h6, h7, h8, h9⟩
end

end Go.Proofs.YtmbbmmnpkdfecaaGreatDoor

/- The law MemfsRunIsIncremental returns true at every list of requests and number. Conditions: the requests lie in memory as they read; the door's variable lies in memory. -/

set_option linter.all false
namespace Go.Proofs.YtmbbmmnpkdfecaaGreatDoor
open Go.RowKit

theorem lawInc_any (a : Option Addr) (c : Nat) (l : List Rq) (k : Int) (hk : 0 ≤ k ∧ k < 256) (w : World) (gm : GM w) (h : Rqs w w.heap.size a c l) :
    Calls Tryz.prog 5 #[.slice a l.length c, .int .u8 k] w fun e w' => e = .returned (.bool true) ∧ Below w.heap.size w w' := by
  have C := run_any a c l w gm h
  by_cases h1 : 60 < l.length
  · exact lawIncBad_any a c l k w gm 2 (-1) (by decide) (C.mono fun e z ⟨hb, hp⟩ => ⟨hb, by rwa [if_pos h1] at hp⟩)
  · by_cases h2 : (rqsC l).1 = 0
    · obtain ⟨n, rfl⟩ := Int.eq_ofNat_of_zero_le hk.1
      exact lawIncOk_any a c l n (by omega) w gm h (by omega) h2
    · exact lawIncBad_any a c l k w gm _ _ h2 (C.mono fun e z ⟨hb, hp⟩ => ⟨hb, by rwa [if_neg h1, if_pos h2] at hp⟩)

theorem lawInc_row (a : Option Addr) (c : Nat) (l : List Rq) (k : Int) (w : World) (gm : GM w) (hk : 0 ≤ k ∧ k < 256) (h : Rqs w w.heap.size a c l) :
    Calls Tryz.prog 5 #[.slice a l.length c, .int .u8 k] w fun e w' => e = .returned (.bool true) ∧ Below w.heap.size w w' := lawInc_any a c l k hk w gm h

end Go.Proofs.YtmbbmmnpkdfecaaGreatDoor
