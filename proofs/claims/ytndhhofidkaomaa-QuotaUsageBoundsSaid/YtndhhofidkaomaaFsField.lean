/- The function that fieldCheck returns, at every inode. Conditions: the tree's cells lie in memory as they read. -/
import Derived.Test.YtndhhofidkaomaaFsCont
import Derived.Test.YtndhhofidkaomaaFsEnts
import Derived.Test.YtndhhofidkaomaaFsSpec
import Derived.Deep.RegionHeld3

set_option linter.all false
namespace Go.Proofs.Ytndhhofidkaomaa
open Go.RowKit

theorem NodC.new (w : World) (x : Nod) (ve vd va vx : Value) (t : TypeId) : NodC (w.alloc (.cells #[.int .i64 x.k, .int .i64 x.o, ve, vd, va, vx, .int .i64 x.q, .int .i64 x.v] t)) w.heap.size 0 ve vd va vx x :=
  ⟨by simp, by simp, by simp, by simp, by simp, by simp, by simp, by simp⟩
theorem NodC.below {w w' : World} {B b o : Nat} {ve vd va vx : Value} {x : Nod} (h : NodC w b o ve vd va vx x) (hb : Below B w w') (hB : b < B) : NodC w' b o ve vd va vx x :=
  h.keep fun o => hb.cell (p := ⟨b, o, none⟩) hB

/-- What holds all through the region: memory below is as it was, the inode's copy and the tree lie there. -/
structure RS (w y : World) (nb pt : Nat) (tv : Value) (ve vd va vx : Value) (x : Nod) : Prop where
  b : Below w.heap.size w y
  lt : nb < y.heap.size
  n : NodC y nb 0 ve vd va vx x
  t : One y pt tv
theorem RS.step {w y z : World} {nb pt : Nat} {tv ve vd va vx : Value} {x : Nod} (h : RS w y nb pt tv ve vd va vx x) (hb : Below y.heap.size y z) : RS w z nb pt tv ve vd va vx x :=
  ⟨h.b.trans (hb.mono h.b.size), Nat.lt_of_lt_of_le h.lt hb.size, h.n.below hb h.lt, h.t.below hb h.t.lt⟩
theorem RS.alloc {w y : World} {nb pt : Nat} {tv ve vd va vx : Value} {x : Nod} (h : RS w y nb pt tv ve vd va vx x) (o : Obj) : RS w (y.alloc o) nb pt tv ve vd va vx x :=
  h.step ((Below.refl _ _).alloc (Nat.le_refl _) o)
theorem RS.drew {w y : World} {nb pt : Nat} {tv ve vd va vx : Value} {x : Nod} (h : RS w y nb pt tv ve vd va vx x) : RS w y.drew nb pt tv ve vd va vx x :=
  h.step (Below.refl _ _).drew
theorem RS.full {w y : World} {nb pt : Nat} {tv ve vd va vx : Value} {x : Nod} (h : RS w y nb pt tv ve vd va vx x) :
    RS w y nb pt tv ve vd va vx x ∧ y.cell? ⟨nb, 0, none⟩ = some (.int .i64 x.k) ∧ y.cell? ⟨nb, 1, none⟩ = some (.int .i64 x.o) ∧ y.cell? ⟨nb, 2, none⟩ = some ve ∧ y.cell? ⟨nb, 3, none⟩ = some vd ∧ y.cell? ⟨nb, 4, none⟩ = some va ∧ y.cell? ⟨nb, 5, none⟩ = some vx ∧ y.cell? ⟨nb, 6, none⟩ = some (.int .i64 x.q) ∧ y.cell? ⟨nb, 7, none⟩ = some (.int .i64 x.v) ∧ y.cell? ⟨pt, 0, none⟩ = some tv := by
  have h1 := h.n.c1; have h2 := h.n.c2; have h3 := h.n.c3; have h4 := h.n.c4; have h5 := h.n.c5; have h6 := h.n.c6; have h7 := h.n.c7
  simp only [Nat.zero_add] at h1 h2 h3 h4 h5 h6 h7
  exact ⟨h, h.n.c0, h1, h2, h3, h4, h5, h6, h7, h.t.c0⟩

theorem field_code (c i : Int) (w : World) : (Instr.field 27 (.agg #[.int .i64 c, .int .i64 i]) 0).run Try.prog w = .ok (.int .i64 c) w := by kernel_rfl

set_option maxRecDepth 100000 in
set_option maxHeartbeats 4000000 in
theorem fieldCheck1_any (a : Option Addr) (c : Nat) (t : Tr) (n pt : Nat) (w : World) (h : Nods w w.heap.size a c t) (hp : One w pt (.slice a t.length c)) (hn : n < t.length) :
    Calls Try.prog 40 #[.int .i64 (n : Int), .pointer (some ⟨pt, 0, none⟩)] w fun e w' => e = .returned (.int .i64 (codeN t (nod t n))) ∧ Below w.heap.size w w' := by
  obtain ⟨b, o, ve, vd, va, vx, rfl, hb, hc, hs⟩ := h.one hn
  obtain ⟨ea, ec, rfl⟩ : ∃ ea ec, ve = .slice ea (nod t n).es.length ec := by obtain ⟨ea, ec, e, _⟩ := hs.es; exact ⟨ea, ec, e⟩
  obtain ⟨da, dc, rfl⟩ : ∃ da dc, vd = .slice da (nod t n).dl dc := by obtain ⟨da, dc, e, _⟩ := hs.dl; exact ⟨da, dc, e⟩
  obtain ⟨aa, acp, rfl⟩ : ∃ aa ac, va = .slice aa (nod t n).ac.length ac := by obtain ⟨da, dc, e, _⟩ := hs.ac; exact ⟨da, dc, e⟩
  obtain ⟨xa, xc, rfl⟩ : ∃ xa xc, vx = .slice xa (nod t n).xs.length xc := by obtain ⟨da, dc, e, _⟩ := hs.xs; exact ⟨da, dc, e⟩
  have nlz : (n : Int) < (t.length : Int) := by omega
  have nz : (0 : Int) ≤ (n : Int) := Int.natCast_nonneg _
  have HN := Lib.hid (show codeN t (nod t n) = if (nod t n).k = 0 then codeF (nod t n) else if (nod t n).k = 1 ∨ (nod t n).k = 2 then or4 (codeC (nod t n)) (valF (nod t n).ac).1 (valA (nod t n).xs).1 (codeEs t (nod t n).es) else 4 from rfl)
  have D1 := Lib.hid (fun W (hb : Below w.heap.size w W) => checkFree_any (nod t n) _ _ _ _ W (hs.up hb))
  have D2 := Lib.hid (fun W (hb : Below w.heap.size w W) => checkContents_any (nod t n) _ _ _ _ W (hs.up hb))
  have D3 := Lib.hid (fun W (hb : Below w.heap.size w W) => validate_any _ (nod t n).ac W ((hs.up hb).ac))
  have D4 := Lib.hid (fun W (hb : Below w.heap.size w W) => xvalidate_any _ (nod t n).xs W ((hs.up hb).xs))
  have D5 := Lib.hid (fun W (hb : Below w.heap.size w W) => checkEntries_any (some ⟨b, o, none⟩) c t _ (nod t n).es W (h.up hb) ((hs.up hb).es))
  unfold valV faultV at D3
  unfold valAV faultV at D4
  have h0 := hc.c0
  have h1 := hc.c1
  have h2 := hc.c2
  have h3 := hc.c3
  have h4 := hc.c4
  have h5 := hc.c5
  have h6 := hc.c6
  have h7 := hc.c7
  have hpc := hp.c0
  have hpl := hp.lt
  have HR := Lib.hid (show RS w (w.alloc (.cells #[.int .i64 (nod t n).k, .int .i64 (nod t n).o, .slice ea (nod t n).es.length ec, .slice da (nod t n).dl dc, .slice aa (nod t n).ac.length acp, .slice xa (nod t n).xs.length xc, .int .i64 (nod t n).q, .int .i64 (nod t n).v] 47)) w.heap.size pt (.slice (some ⟨b, o, none⟩) t.length c) (.slice ea (nod t n).es.length ec) (.slice da (nod t n).dl dc) (.slice aa (nod t n).ac.length acp) (.slice xa (nod t n).xs.length xc) (nod t n) from
    ⟨(Below.refl _ _).alloc (Nat.le_refl _) _, by simp, NodC.new _ _ _ _ _ _ _, hp.alloc _⟩)
  clear hc hs h hp
  generalize codeN t (nod t n) = r at *
  generalize codeF (nod t n) = r1 at *
  generalize codeC (nod t n) = r2 at *
  generalize (valF (nod t n).ac).1 = r3 at *
  generalize (valF (nod t n).ac).2 = r3b at *
  generalize (valA (nod t n).xs).1 = r4 at *
  generalize (valA (nod t n).xs).2 = r4b at *
  generalize codeEs t (nod t n).es = r5 at *
  generalize nod t n = x at *
  obtain ⟨k, ow, es, dl, ac, xs, q, v⟩ := x
  simp only at *
  have hf3 := field_code r3 r3b
  have hf4 := field_code r4 r4b
  by_cases k0 : k = 0
  · subst k0
    rw [if_pos rfl] at HN
    go_enter Try.func40, Try.ntmps40
    go_wp2_with fail
    refine (D1.out _ ((Below.refl _ _).alloc (Nat.le_refl _) _)).mono ?_
    rintro e w2 ⟨rfl, hb2⟩
    have hB2 : Below w.heap.size w w2 := ((Below.refl _ _).alloc (Nat.le_refl _) _).trans (hb2.mono (by first | omega | (simp; done) | (simp; omega)))
    clear hb2
    go_wp2
    go_ret
    exact ⟨ret_int HN.out.symm, hB2⟩
  · have k1 : (k == 0) = false := by simpa using k0
    rw [if_neg k0] at HN
    by_cases k2 : k = 1 ∨ k = 2
    · rw [if_pos k2] at HN
      clear k0
      rcases k2 with rfl | rfl
      · go_enter Try.func40, Try.ntmps40
        go_wp2_with fail
        go_region_held3 (fun y => RS w y w.heap.size pt (.slice (some ⟨b, o, none⟩) t.length c) (.slice ea es.length ec) (.slice da dl dc) (.slice aa ac.length acp) (.slice xa xs.length xc) ⟨1, ow, es, dl, ac, xs, q, v⟩ ∧ y.cell? ⟨w.heap.size, 0, none⟩ = some (.int .i64 1) ∧ y.cell? ⟨w.heap.size, 1, none⟩ = some (.int .i64 ow) ∧ y.cell? ⟨w.heap.size, 2, none⟩ = some (.slice ea es.length ec) ∧ y.cell? ⟨w.heap.size, 3, none⟩ = some (.slice da dl dc) ∧ y.cell? ⟨w.heap.size, 4, none⟩ = some (.slice aa ac.length acp) ∧ y.cell? ⟨w.heap.size, 5, none⟩ = some (.slice xa xs.length xc) ∧ y.cell? ⟨w.heap.size, 6, none⟩ = some (.int .i64 q) ∧ y.cell? ⟨w.heap.size, 7, none⟩ = some (.int .i64 v) ∧ y.cell? ⟨pt, 0, none⟩ = some (.slice (some ⟨b, o, none⟩) t.length c))
          (first | exact RS.full hR | exact RS.full HR.out.drew | exact RS.full (RS.alloc (And.left ‹RS w _ w.heap.size pt _ _ _ _ _ _ ∧ _›) _))
          (first
            | (go_at_call 43; have hs0 := And.left ‹RS w _ w.heap.size pt _ _ _ _ _ _ ∧ _›; refine (D2.out _ hs0.b).mono ?_; rintro e y ⟨rfl, hb⟩; have hR := hs0.step hb)
            | (go_at_call 44; have hs0 := And.left ‹RS w _ w.heap.size pt _ _ _ _ _ _ ∧ _›; refine (D3.out _ hs0.b).mono ?_; rintro e y ⟨rfl, hb⟩; have hR := hs0.step hb)
            | (go_at_call 45; have hs0 := And.left ‹RS w _ w.heap.size pt _ _ _ _ _ _ ∧ _›; refine (D4.out _ hs0.b).mono ?_; rintro e y ⟨rfl, hb⟩; have hR := hs0.step hb)
            | (go_at_call 46; have hs0 := And.left ‹RS w _ w.heap.size pt _ _ _ _ _ _ ∧ _›; refine (D5.out _ hs0.b).mono ?_; rintro e y ⟨rfl, hb⟩; have hR := hs0.step hb)
            | (go_at_call 42; have hR := And.left ‹RS w _ w.heap.size pt _ _ _ _ _ _ ∧ _›; refine (or4_any r2 r3 r4 r5 _ _ (by simp) (by simp) (by simp) (by simp) (by simp)).mono ?_; rintro e y ⟨rfl, rfl⟩))
        all_goals
          have hz := And.left ‹RS w _ w.heap.size pt _ _ _ _ _ _ ∧ _›
          go_wp2
          go_ret
          exact ⟨ret_int HN.out.symm, hz.b⟩
      · go_enter Try.func40, Try.ntmps40
        go_wp2_with fail
        go_region_held3 (fun y => RS w y w.heap.size pt (.slice (some ⟨b, o, none⟩) t.length c) (.slice ea es.length ec) (.slice da dl dc) (.slice aa ac.length acp) (.slice xa xs.length xc) ⟨2, ow, es, dl, ac, xs, q, v⟩ ∧ y.cell? ⟨w.heap.size, 0, none⟩ = some (.int .i64 2) ∧ y.cell? ⟨w.heap.size, 1, none⟩ = some (.int .i64 ow) ∧ y.cell? ⟨w.heap.size, 2, none⟩ = some (.slice ea es.length ec) ∧ y.cell? ⟨w.heap.size, 3, none⟩ = some (.slice da dl dc) ∧ y.cell? ⟨w.heap.size, 4, none⟩ = some (.slice aa ac.length acp) ∧ y.cell? ⟨w.heap.size, 5, none⟩ = some (.slice xa xs.length xc) ∧ y.cell? ⟨w.heap.size, 6, none⟩ = some (.int .i64 q) ∧ y.cell? ⟨w.heap.size, 7, none⟩ = some (.int .i64 v) ∧ y.cell? ⟨pt, 0, none⟩ = some (.slice (some ⟨b, o, none⟩) t.length c))
          (first | exact RS.full hR | exact RS.full HR.out.drew | exact RS.full (RS.alloc (And.left ‹RS w _ w.heap.size pt _ _ _ _ _ _ ∧ _›) _))
          (first
            | (go_at_call 43; have hs0 := And.left ‹RS w _ w.heap.size pt _ _ _ _ _ _ ∧ _›; refine (D2.out _ hs0.b).mono ?_; rintro e y ⟨rfl, hb⟩; have hR := hs0.step hb)
            | (go_at_call 44; have hs0 := And.left ‹RS w _ w.heap.size pt _ _ _ _ _ _ ∧ _›; refine (D3.out _ hs0.b).mono ?_; rintro e y ⟨rfl, hb⟩; have hR := hs0.step hb)
            | (go_at_call 45; have hs0 := And.left ‹RS w _ w.heap.size pt _ _ _ _ _ _ ∧ _›; refine (D4.out _ hs0.b).mono ?_; rintro e y ⟨rfl, hb⟩; have hR := hs0.step hb)
            | (go_at_call 46; have hs0 := And.left ‹RS w _ w.heap.size pt _ _ _ _ _ _ ∧ _›; refine (D5.out _ hs0.b).mono ?_; rintro e y ⟨rfl, hb⟩; have hR := hs0.step hb)
            | (go_at_call 42; have hR := And.left ‹RS w _ w.heap.size pt _ _ _ _ _ _ ∧ _›; refine (or4_any r2 r3 r4 r5 _ _ (by simp) (by simp) (by simp) (by simp) (by simp)).mono ?_; rintro e y ⟨rfl, rfl⟩))
        all_goals
          have hz := And.left ‹RS w _ w.heap.size pt _ _ _ _ _ _ ∧ _›
          go_wp2
          go_ret
          exact ⟨ret_int HN.out.symm, hz.b⟩
    · rw [if_neg k2] at HN
      have k3 : (k == 1) = false := by have : k ≠ 1 := fun e => k2 (.inl e); simpa using this
      have k4 : (k == 2) = false := by have : k ≠ 2 := fun e => k2 (.inr e); simpa using this
      clear k0 k2
      go_enter Try.func40, Try.ntmps40
      go_wp2
      go_ret
      exact ⟨ret_int HN.out.symm, (Below.refl _ _).alloc (Nat.le_refl _) _⟩

end Go.Proofs.Ytndhhofidkaomaa
