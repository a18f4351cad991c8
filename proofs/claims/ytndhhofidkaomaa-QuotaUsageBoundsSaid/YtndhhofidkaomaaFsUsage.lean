/- usage and quotaCheck. Conditions: all inodes that are not free are reached; the tree's cells lie in memory as they read. -/
import Derived.Test.YtndhhofidkaomaaFsPathC
import Derived.IntWalk

set_option linter.all false
namespace Go.Proofs.Ytndhhofidkaomaa
open Go.RowKit

theorem One.set {w : World} {n : Nat} {v : Value} (h : One w n v) (u : Value) : One (w.setCell ⟨n, 0, none⟩ u) n u :=
  ⟨by simpa using h.lt, World.cell?_setCell_same _ _ _ h.c0, by simpa using h.f0⟩
/-- What is counted so far. -/
structure UInv (W : World) (t : Tr) (a : Option Addr) (c pt ptot R pc Bt : Nat) (L : List Vis) : Prop where
  row : Row W R t.length (fun j => .bool (hasL L j))
  cv : One W pc (.slice (some ⟨R, 0, none⟩) t.length t.length)
  tot : One W ptot (.int .i64 (usg t L : Nat))
  tb : One W pt (.slice a t.length c)
  nd : Nods W Bt a c t
theorem UInv.below {W W' : World} {t : Tr} {a : Option Addr} {c pt ptot R pc Bt B : Nat} {L : List Vis} (h : UInv W t a c pt ptot R pc Bt L) (hb : Below B W W') (h1 : R < B) (h2 : ptot < B) (h3 : pc < B) (h4 : pt < B) (h5 : Bt ≤ B) : UInv W' t a c pt ptot R pc Bt L :=
  ⟨h.row.below hb h1, h.cv.below hb h3, h.tot.below hb h2, h.tb.below hb h4, h.nd.below (hb.mono h5)⟩

set_option maxRecDepth 100000 in
set_option maxHeartbeats 1600000 in
theorem usage1_any (t : Tr) (h1 : Ok1 t) (a : Option Addr) (c pt ptot R pc Bt : Nat) (d0 : Bt ≤ pt) (d1 : pt < ptot) (d2 : ptot < R) (d3 : R < pc) (W : World) (L : List Vis) (xs : List ByteArray) (n : Nat) (v : Value) (hp : pc < W.heap.size) (h : UInv W t a c pt ptot R pc Bt L) (hn : n < t.length) :
    Calls Try.prog 62 #[v, .int .i64 (n : Int), .pointer (some ⟨pc, 0, none⟩), .pointer (some ⟨ptot, 0, none⟩), .pointer (some ⟨pt, 0, none⟩)] W fun e W' => e = .returned (.tuple #[]) ∧ UInv W' t a c pt ptot R pc Bt (L ++ [(xs, n)]) ∧ Kept (fun b => b = R ∨ b = ptot) none W W' := by
  have nlz : (n : Int) < (t.length : Int) := by omega
  have nz : (0 : Int) ≤ (n : Int) := Int.natCast_nonneg _
  obtain ⟨b, o, ve, vd, va, vx, rfl, hb, hc, hs⟩ := h.nd.one hn
  obtain ⟨da, dc, rfl, _⟩ := hs.dl
  have h3 := hc.c3
  have hdl := (h1.fine n).dl
  have hul := usg_le h1 L
  have r0 := h.row.c n hn
  have rz := h.row.fz n
  have rl := h.row.lt
  have c0 := h.cv.c0
  have t0 := h.tot.c0
  have tz := h.tot.f0
  have b0 := h.tb.c0
  have hl5 : ptot < W.heap.size := by omega
  have hl6 : pt < W.heap.size := by omega
  have HI := Lib.hid h
  have HU := Lib.hid (usg_snoc (L := L) (p := (xs, n)) hn)
  clear hc hs h h1
  cases hx : hasL L n with
  | true =>
    rw [hx] at r0
    have HL := Lib.hid (show UInv W t (some ⟨b, o, none⟩) c pt ptot R pc Bt (L ++ [(xs, n)]) from
      ⟨HI.out.row.ext (fun j _ => by
        rw [hasL_snoc]
        by_cases e : n = j
        · subst e; simp [hx]
        · simp [e]), HI.out.cv, by rw [HU.out, if_pos hx]; exact HI.out.tot, HI.out.tb, HI.out.nd⟩)
    clear hx HU
    go_enter Try.func62, Try.ntmps62
    go_wp2
    go_end0
    exact ⟨rfl, HL.out, Kept.refl _ _ _⟩
  | false =>
    rw [hx] at r0
    have HR := Lib.hid (fun (f : Nat → Value) (hf : ∀ j, j < t.length → f j = (if j = n then Value.bool true else Value.bool (hasL L j))) j (hj : j < t.length) => (show f j = .bool (hasL (L ++ [(xs, n)]) j) from by
      rw [hf j hj, hasL_snoc]
      by_cases e : j = n
      · subst e; simp
      · rw [if_neg e, decide_eq_false (fun h => e h.symm), Bool.or_false]))
    have HU2 := Lib.hid (show usg t (L ++ [(xs, n)]) = usg t L + (nod t n).dl from by rw [HU.out, if_neg (by rw [hx]; simp)])
    clear hx HU
    have RR := Lib.hid (HI.out.row.put hn (.bool true))
    have HV := HI.out.nd
    generalize hu : usg t L = u at *
    generalize hd : (nod t n).dl = d at *
    have b1 : (W.setCell ⟨R, n, none⟩ (.bool true)).cell? ⟨ptot, 0, none⟩ = some (.int .i64 (u : Int)) := (World.cell?_setCell_other _ _ _ _ (by first | omega | (simp; done) | (simp; omega))).trans t0
    have b2 : (W.setCell ⟨R, n, none⟩ (.bool true)).cell? ⟨pt, 0, none⟩ = some (.slice (some ⟨b, o, none⟩) t.length c) := (World.cell?_setCell_other _ _ _ _ (by first | omega | (simp; done) | (simp; omega))).trans b0
    have b3 : (W.setCell ⟨R, n, none⟩ (.bool true)).cell? ⟨b, o + n * 8 + 3, none⟩ = some (.slice da d dc) := (World.cell?_setCell_other _ _ _ _ (by first | omega | (simp; done) | (simp; omega))).trans h3
    have FF := Lib.hid (show UInv ((W.setCell ⟨R, n, none⟩ (.bool true)).drew.setCell ⟨ptot, 0, none⟩ (.int .i64 ((u : Int) + (d : Int)))) t (some ⟨b, o, none⟩) c pt ptot R pc Bt (L ++ [(xs, n)]) from
      ⟨((show Row (W.setCell ⟨R, n, none⟩ (.bool true)).drew R t.length _ from ⟨RR.out.lt, RR.out.c, RR.out.fz⟩).far (by first | omega | (simp; done) | (simp; omega)) _).ext (HR.out _ (fun _ _ => rfl)), ((HI.out.cv.far (p := ⟨R, n, none⟩) (by first | omega | (simp; done) | (simp; omega)) (.bool true)).drew).far (by first | omega | (simp; done) | (simp; omega)) _, by
        have := ((HI.out.tot.far (p := ⟨R, n, none⟩) (by first | omega | (simp; done) | (simp; omega)) (.bool true)).drew).set (.int .i64 ((u : Int) + (d : Int)))
        rw [HU2.out]
        have e : ((u + d : Nat) : Int) = (u : Int) + (d : Int) := by omega
        rw [e]; exact this, ((HI.out.tb.far (p := ⟨R, n, none⟩) (by first | omega | (simp; done) | (simp; omega)) (.bool true)).drew).far (by first | omega | (simp; done) | (simp; omega)) _, HV.keep fun b' o' hb' => (World.cell?_setCell_other _ _ _ _ (by first | omega | (simp; done) | (simp; omega))).trans (World.cell?_setCell_other W _ _ _ (by first | omega | (simp; done) | (simp; omega)))⟩)
    have KK := Lib.hid (show Kept (fun b => b = R ∨ b = ptot) none W ((W.setCell ⟨R, n, none⟩ (.bool true)).drew.setCell ⟨ptot, 0, none⟩ (.int .i64 ((u : Int) + (d : Int)))) from
      (((Kept.refl _ _ _).set (.inl rfl) _).trans (Kept.of_below (Below.refl _ _).drew)).set (.inr rfl) _)
    have dz : (0 : Int) ≤ (d : Int) := Int.natCast_nonneg _
    have uz : (0 : Int) ≤ (u : Int) := Int.natCast_nonneg _
    go_enter Try.func62, Try.ntmps62
    have hwr : IntKind.i64.wrap ((u : Int) + (d : Int)) = (u : Int) + (d : Int) := IntWalk.i64_in _ (by omega)
    go_wp2
    go_region
    all_goals
      go_end0
      exact ⟨rfl, FF.out, KK.out⟩

end Go.Proofs.Ytndhhofidkaomaa
