/- The reference's Usage. Conditions: the tree's inodes are valid by themselves, all walks from the inode end; the tree's cells lie in memory as they read. -/
import Derived.Test.YtndhhofidkaomaaFsRoutes
import Derived.Test.YtndhhofidkaomaaFsUsage

set_option linter.all false
namespace Go.Proofs.Ytndhhofidkaomaa
open Go.RowKit

theorem hasL_take {L : List Vis} {j i : Nat} (h : j < L.length) : hasL (L.take (j + 1)) i = (hasL (L.take j) i || decide ((L.getD j V0).2 = i)) := by
  rw [List.take_succ_eq_append_getElem h, hasL_snoc, visD h]
theorem farL_take {L : List Vis} {j i : Nat} (h : j < L.length) : farL (L.take (j + 1)) i = (farL (L.take j) i || (decide ((L.getD j V0).2 = i) && tooFar (L.getD j V0).1)) := by
  rw [List.take_succ_eq_append_getElem h, farL_snoc, visD h]
theorem usg_take {t : Tr} {L : List Vis} {j : Nat} (h : j < L.length) (hp : (L.getD j V0).2 < t.length) : usg t (L.take (j + 1)) = if hasL (L.take j) (L.getD j V0).2 = true then usg t (L.take j) else usg t (L.take j) + (nod t (L.getD j V0).2).dl := by
  rw [List.take_succ_eq_append_getElem h, ← visD h, usg_snoc hp]
theorem Vs.far {w : World} {B : Nat} {v : Value} {L : List Vis} (h : Vs w B v L) {p : Addr} (hp : ∀ q, v.ownBlock = some q → q ≠ p.block) (u : Value) : Vs (w.setCell p u) B v L := by
  obtain ⟨b, c, rfl, hc, h0, hB, hj⟩ := h
  have hb := hp b rfl
  have k : ∀ o, (w.setCell p u).cell? ⟨b, o, none⟩ = w.cell? ⟨b, o, none⟩ := fun o => World.cell?_setCell_other w p _ u (fun e => hb (by rw [e]))
  refine ⟨b, c, rfl, hc, h0, hB, fun j hl => ?_⟩
  rw [k, k, k]
  exact hj j hl

theorem Vs.cell {w : World} {B rb n rc : Nat} {L : List Vis} (h : Vs w B (.slice (some ⟨rb, 0, none⟩) n rc) L) {j : Nat} (hj : j < L.length) : rb < B ∧ w.cell? ⟨rb, j * 3, none⟩ = some (.string (bP (L.getD j V0).1)) ∧ w.cell? ⟨rb, j * 3 + 1, none⟩ = some (.int .i64 ((L.getD j V0).1.length : Nat)) ∧ w.cell? ⟨rb, j * 3 + 2, none⟩ = some (.int .i64 ((L.getD j V0).2 : Nat)) := by
  obtain ⟨b, c, hve, _, _, hB, hx⟩ := h
  injection hve with hve _ _
  injection hve with hve
  injection hve with e1 _ _
  subst e1
  exact ⟨hB, hx j hj⟩
/-- What holds while the sizes are added. -/
structure UR (w wr : World) (a : Option Addr) (c : Nat) (t : Tr) (v : Value) (L : List Vis) (B j : Nat) : Prop where
  b : Below w.heap.size w wr
  tb : One wr w.heap.size (.slice a t.length c)
  row : Row wr (w.heap.size + 1) t.length (fun i => .bool (hasL (L.take j) i))
  vs : Vs wr B v L
theorem UR.step {w wr z : World} {a : Option Addr} {c : Nat} {t : Tr} {v : Value} {L : List Vis} {B j : Nat} (h : UR w wr a c t v L B j) (hb : Below wr.heap.size wr z) (hB : B ≤ wr.heap.size) : UR w z a c t v L B j :=
  ⟨h.b.trans (hb.mono h.b.size), h.tb.below hb h.tb.lt, h.row.below hb h.row.lt, h.vs.below (hb.mono hB)⟩
theorem UR.mark {w wr : World} {a : Option Addr} {c : Nat} {t : Tr} {v : Value} {L : List Vis} {B j m : Nat} (h : UR w wr a c t v L B j) (hv : ∀ q, v.ownBlock = some q → w.heap.size + 1 < q) (hj : j < L.length) (hm : (L.getD j V0).2 = m) (hmt : m < t.length) : UR w (wr.setCell ⟨w.heap.size + 1, m, none⟩ (.bool true)) a c t v L B (j + 1) :=
  ⟨h.b.setCell (by simp) _, h.tb.far (by simp) _, (h.row.put hmt _).ext (fun i _ => by
    rw [hasL_take hj, hm]
    by_cases e : i = m
    · subst e; simp
    · rw [if_neg e, decide_eq_false (fun h => e h.symm), Bool.or_false]), h.vs.far (fun q hq => by have := hv q hq; simp; omega) _⟩

set_option maxRecDepth 100000 in
set_option maxHeartbeats 3200000 in
theorem refUsage_any (a : Option Addr) (c : Nat) (t : Tr) (n : Nat) (w : World) (h1 : Ok1 t) (fr : From t n) (h : Nods w w.heap.size a c t) :
    Calls Try.prog 10 #[.agg #[.slice a t.length c], .int .i64 (n : Int)] w fun e w' => e = .returned (.int .i64 (usg t (visits t n) : Nat)) ∧ Below w.heap.size w w' := by
  have hn := fr.lt
  have hk := fr.used
  have H := Lib.hid h
  have H1 := Lib.hid h1
  have FR := Lib.hid fr
  have hmk := make_bools t.length h1.le
  have nlz : (n : Int) < (t.length : Int) := by omega
  have nz : (0 : Int) ≤ (n : Int) := Int.natCast_nonneg _
  obtain ⟨b, o, ve, vd, va, vx, rfl, hb, hc, hs⟩ := h.one hn
  have c0 := hc.c0
  have hkb : ((nod t n).k == 0) = false := by simpa using hk
  generalize (nod t n).k = gk at *
  have BB := Lib.hid (show Below w.heap.size w ((w.alloc (.cells #[.slice (some ⟨b, o, none⟩) t.length c] 24)).alloc (.cells (madeCells #[.bool false] t.length) 4)) from
    ((Below.refl _ _).alloc (Nat.le_refl _) _).alloc (by first | omega | (simp; done) | (simp; omega)) _)
  have TT := Lib.hid (show One ((w.alloc (.cells #[.slice (some ⟨b, o, none⟩) t.length c] 24)).alloc (.cells (madeCells #[.bool false] t.length) 4)) w.heap.size (.slice (some ⟨b, o, none⟩) t.length c) from (One.new w _ _).alloc _)
  have RR := Lib.hid (show Row ((w.alloc (.cells #[.slice (some ⟨b, o, none⟩) t.length c] 24)).alloc (.cells (madeCells #[.bool false] t.length) 4)) (w.heap.size + 1) t.length (fun _ => .bool false) from (row_new (w.alloc _) t.length (.bool false) _).at_ (by simp))
  have HQ := Lib.hid (routes_any (some ⟨b, o, none⟩) c t n _ h1 fr (h.up BB.out))
  clear hc hs h h1 fr hk
  go_enter Try.func10, Try.ntmps10
  go_wp2_with fail
  refine HQ.out.mono ?_
  rintro e w2 ⟨v, L, rfl, hvs, hperm, hlow, b2⟩
  have P := Lib.hid hperm
  have HU := Lib.hid (usg_perm t hperm)
  have hl6 : L.length ≤ 641 := by rw [← hperm.length_eq]; exact len_visits H1.out FR.out
  have hv : ∀ q, v.ownBlock = some q → w.heap.size + 1 < q := fun q hq => by have := hlow q hq; simp at this; omega
  have HV := Lib.hid hv
  have X0 := Lib.hid (show UR w w2 (some ⟨b, o, none⟩) c t v L w2.heap.size 0 from ⟨BB.out.trans (b2.mono (by first | omega | (simp; done) | (simp; omega))), TT.out.below b2 TT.out.lt, (RR.out.below b2 RR.out.lt).ext (fun _ _ => by simp [hasL]), hvs⟩)
  obtain ⟨rb, rc, rfl, hrc, hL0, _, _⟩ := hvs
  have hw2 := b2.size
  clear hperm hlow b2 HQ TT RR BB hv c0 hmk
  go_wp2_with fail
  go_loopg [7, 8] L.length (fun gg s7 s8 wr => ∃ j : Nat, j ≤ L.length ∧ L.length - j ≤ gg ∧ s7 = .int .i64 (usg t (L.take j) : Nat) ∧ s8 = .int .i64 j ∧ w2.heap.size ≤ wr.heap.size ∧ Aside (UR w wr (some ⟨b, o, none⟩) c t (.slice (some ⟨rb, 0, none⟩) L.length rc) L w2.heap.size j))
  case atStart => exact ⟨0, by omega, by omega, by rw [List.take_zero, usg_nil]; rfl, rfl, Nat.le_refl _, X0.out⟩
  case round =>
    obtain ⟨j, hj, hg, rfl, rfl, hw2r, X⟩ := hrel
    clear X0
    by_cases hlt : j < L.length
    · have hltz : (j : Int) < (L.length : Int) := by omega
      have hj0 : (0 : Int) ≤ (j : Int) := Int.natCast_nonneg _
      have hm9 : L.length - (j + 1) < L.length - j := Nat.sub_lt_sub_left hlt (Nat.lt_succ_self j)
      have r2 := (X.out.vs.cell hlt).2.2.2
      have hmem : L.getD j V0 ∈ L := by rw [visD hlt]; exact List.getElem_mem hlt
      have hrch := (mem_visits FR.out.fin (ys := (L.getD j V0).1) (m := (L.getD j V0).2)).1 (P.out.mem_iff.2 hmem)
      have hml := (H1.out.rch hrch FR.out.lt FR.out.used).1
      have HT := Lib.hid (usg_take (t := t) hlt hml)
      have hdl := (H1.out.fine (L.getD j V0).2).dl
      have hul := usg_le H1.out (L.take j)
      clear hmem hrch
      generalize hm : (L.getD j V0).2 = m at *
      have HM := Lib.hid hm
      clear hm
      have mlz : (m : Int) < (t.length : Int) := by omega
      have mz : (0 : Int) ≤ (m : Int) := Int.natCast_nonneg _
      have rr := X.out.row.c m hml
      have rf := X.out.row.fz m
      have rl := X.out.row.lt
      have tc := X.out.tb.c0
      have tl := X.out.tb.lt
      obtain ⟨b', o', ve, vd, va, vx, hae, hb', hc, hs⟩ := (H.out.up X.out.b).one hml
      injection hae with hae
      injection hae with e1 e2 _
      subst e1 e2
      obtain ⟨da, dc, rfl, _⟩ := hs.dl
      have g3 := hc.c3
      clear hc hs
      have XX := Lib.hid (X.out.mark HV.out hlt HM.out hml)
      generalize hu : usg t (L.take j) = u at *
      generalize (nod t m).dl = d at *
      cases hx : hasL (L.take j) m with
      | true =>
        rw [hx] at rr
        have HT2 := Lib.hid (show usg t (L.take (j + 1)) = u by rw [HT.out, if_pos hx])
        clear hx HT
        go_wp2
        go_roundg (L.length - (j + 1))
        case measure => exact Nat.lt_of_lt_of_le hm9 hg
        case rel => exact ⟨j + 1, by omega, by omega, by rw [HT2.out], by go_num, by simpa using hw2r, XX.out⟩
      | false =>
        rw [hx] at rr
        have HT2 := Lib.hid (show usg t (L.take (j + 1)) = u + d by rw [HT.out, if_neg (by rw [hx]; simp)])
        clear hx HT
        have dz : (0 : Int) ≤ (d : Int) := Int.natCast_nonneg _
        have uz : (0 : Int) ≤ (u : Int) := Int.natCast_nonneg _
        have hwr : IntKind.i64.wrap ((u : Int) + (d : Int)) = (u : Int) + (d : Int) := IntWalk.i64_in _ (by omega)
        have XY := Lib.hid ((X.out.step (Below.refl wr.heap.size wr).drew hw2r).mark HV.out hlt HM.out hml)
        clear XX
        go_wp2_with fail
        go_region
        all_goals
          go_wp2_with fail
          go_roundg (L.length - (j + 1))
          case measure => exact Nat.lt_of_lt_of_le hm9 hg
          case rel => exact ⟨j + 1, by omega, by omega, by rw [HT2.out]; go_num, by go_num, by simpa using hw2r, XY.out⟩
    · obtain rfl : j = L.length := by omega
      have hul := usg_le H1.out L
      go_wp2
      go_ret
      exact ⟨ret_int (by rw [List.take_length, HU.out]), X.out.b⟩

end Go.Proofs.Ytndhhofidkaomaa
