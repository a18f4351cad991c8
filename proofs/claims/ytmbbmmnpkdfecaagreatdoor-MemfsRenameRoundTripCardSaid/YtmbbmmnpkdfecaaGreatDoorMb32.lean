/- Package memfs and what it calls, at this seat's translation.
   Condition: as each theorem states; this text: MfRun, MfArg2. -/
import Derived.Test.YtmbbmmnpkdfecaaGreatDoorMb31
import Derived.Test.YtmbbmmnpkdfecaaGreatDoorMb8

set_option linter.all false

/- Run: requests applied in order to an empty tree. Conditions: the requests lie in memory as they read. -/

set_option linter.all false
namespace Go.Proofs.YtmbbmmnpkdfecaaGreatDoor
open Go.RowKit

/-- Apply of a valid request to a valid tree. -/
theorem applyOk_any (a : Option Addr) (c : Nat) (t : FT) (r : Rq) (vd va : Value) (w : World) (gm : GM w) (h : FNods w w.heap.size a c t) (hr : RqS w w.heap.size vd va r) (hv : (valT (tr t)).1 = 0) (hq : rqC r = 0) :
    Calls Tryz.prog 12 #[.agg #[.slice a t.length c], rqV r vd va] w fun e w' => Below w.heap.size w w' ∧ ∃ g cap sl vd vn, e = .returned (.tuple #[.agg #[.slice (some ⟨g, 0, none⟩) (applyF t r).1.length cap], rpV (applyF t r).2 vd vn, .agg #[.int .i64 0, .int .i64 0]]) ∧ OT w' w.heap.size g cap sl (applyF t r).1 ∧ RpS w' w.heap.size w'.heap.size vd vn (applyF t r).2 :=
  (apply_any a c t r vd va w gm h hr).mono fun e w' ⟨h1, h2⟩ => by
    rw [if_neg (by simpa using hv), if_neg (by simpa using hq)] at h2
    exact ⟨h1, h2⟩
/-- The slice at a reads as the requests l, all of it below block B. -/
structure Rqs (w : World) (B : Nat) (a : Option Addr) (c : Nat) (l : List Rq) : Prop where
  cap : l.length ≤ c
  len : l.length ≤ 35184372088832
  at_ : 0 < l.length → ∃ b o, a = some ⟨b, o, none⟩ ∧ b < B ∧ ∀ j, j < l.length → ∃ vd va, RqC w b (o + j * 10) (l.getD j R0) vd va ∧ RqS w B vd va (l.getD j R0)
theorem RqC.keep {w w' : World} {b o : Nat} {r : Rq} {vd va : Value} (h : RqC w b o r vd va) (hk : ∀ o, w'.cell? ⟨b, o, none⟩ = w.cell? ⟨b, o, none⟩) : RqC w' b o r vd va :=
  ⟨(hk _).trans h.c0, (hk _).trans h.c1, (hk _).trans h.c2, (hk _).trans h.c3, (hk _).trans h.c4, (hk _).trans h.c5, (hk _).trans h.c6, (hk _).trans h.c7, (hk _).trans h.c8, (hk _).trans h.c9⟩
theorem Rqs.up {w w' : World} {c : Nat} {a : Option Addr} {l : List Rq} (h : Rqs w w.heap.size a c l) (hb : Below w.heap.size w w') : Rqs w' w'.heap.size a c l := by
  refine ⟨h.cap, h.len, fun h0 => ?_⟩
  obtain ⟨b, o, ha, hB, hj⟩ := h.at_ h0
  refine ⟨b, o, ha, Nat.lt_of_lt_of_le hB hb.size, fun j hjl => ?_⟩
  obtain ⟨vd, va, h1, h2⟩ := hj j hjl
  exact ⟨vd, va, h1.keep (fun o => hb.cell (p := ⟨b, o, none⟩) hB), h2.up hb⟩
/-- The first request that is not valid. -/
def rqsC (l : List Rq) : Int × Int := firstNZ (fun j => rqC (l.getD j R0)) l.length 0
/-- A row of replies at block R, in blocks from lo on. -/
def Rps (w : World) (lo R : Nat) (ps : List Rp) : Prop :=
  ∀ j, j < ps.length → ∃ vd vn, (w.cell? ⟨R, j * 9, none⟩ = some (.int .i64 (ps.getD j Rp0).c) ∧ w.cell? ⟨R, j * 9 + 1, none⟩ = some vd ∧ w.cell? ⟨R, j * 9 + 2, none⟩ = some vn ∧ w.cell? ⟨R, j * 9 + 3, none⟩ = some (.int .i64 (ps.getD j Rp0).s.i)
    ∧ w.cell? ⟨R, j * 9 + 4, none⟩ = some (.int .i64 (ps.getD j Rp0).s.k) ∧ w.cell? ⟨R, j * 9 + 5, none⟩ = some (.int .i64 (ps.getD j Rp0).s.o) ∧ w.cell? ⟨R, j * 9 + 6, none⟩ = some (.int .i64 (ps.getD j Rp0).s.z) ∧ w.cell? ⟨R, j * 9 + 7, none⟩ = some (.int .i64 (ps.getD j Rp0).s.l) ∧ w.cell? ⟨R, j * 9 + 8, none⟩ = some (.int .i64 (ps.getD j Rp0).s.v))
      ∧ RpS w lo w.heap.size vd vn (ps.getD j Rp0)
def RunPost (l : List Rq) (w : World) (e : Ending) (w' : World) : Prop :=
  Below w.heap.size w w' ∧
    if 60 < l.length then e = .returned (.tuple #[.agg #[.slice none 0 0], .slice none 0 0, .agg #[.int .i64 2, .int .i64 (-1)]])
    else if (rqsC l).1 ≠ 0 then e = .returned (.tuple #[.agg #[.slice none 0 0], .slice none 0 0, .agg #[.int .i64 (rqsC l).1, .int .i64 (rqsC l).2]])
    else ∃ g cap sl R, e = .returned (.tuple #[.agg #[.slice (some ⟨g, 0, none⟩) (runF T0 l).1.length cap], .slice (some ⟨R, 0, none⟩) l.length l.length, .agg #[.int .i64 0, .int .i64 0]]) ∧ OT w' w.heap.size g cap sl (runF T0 l).1 ∧ w.heap.size ≤ R ∧ R < w'.heap.size ∧ Rps w' w.heap.size R (runF T0 l).2
theorem Rps.up {w w' : World} {lo R : Nat} {ps : List Rp} (h : Rps w lo R ps) (hR : R < w.heap.size) (hb : Below w.heap.size w w') : Rps w' lo R ps := by
  intro j hj
  obtain ⟨vd, vn, ⟨c0, c1, c2, c3, c4, c5, c6, c7, c8⟩, hs⟩ := h j hj
  have k : ∀ o, w'.cell? ⟨R, o, none⟩ = w.cell? ⟨R, o, none⟩ := fun o => hb.cell (p := ⟨R, o, none⟩) hR
  exact ⟨vd, vn, ⟨(k _).trans c0, (k _).trans c1, (k _).trans c2, (k _).trans c3, (k _).trans c4, (k _).trans c5, (k _).trans c6, (k _).trans c7, (k _).trans c8⟩, hs.up hb⟩
/-- A store elsewhere. -/
theorem Rps.far {w : World} {lo R : Nat} {ps : List Rp} (h : Rps w lo R ps) {p : Addr} (hp : p.block < lo) (hR : R ≠ p.block) (u : Value) : Rps (w.setCell p u) lo R ps := by
  intro j hj
  obtain ⟨vd, vn, ⟨c0, c1, c2, c3, c4, c5, c6, c7, c8⟩, hs⟩ := h j hj
  have k : ∀ o, (w.setCell p u).cell? ⟨R, o, none⟩ = w.cell? ⟨R, o, none⟩ := fun o => World.cell?_setCell_other w p _ u (fun e => hR (congrArg Addr.block e).symm)
  exact ⟨vd, vn, ⟨(k _).trans c0, (k _).trans c1, (k _).trans c2, (k _).trans c3, (k _).trans c4, (k _).trans c5, (k _).trans c6, (k _).trans c7, (k _).trans c8⟩, by
    have := hs.low hp u
    rwa [show (w.setCell p u).heap.size = w.heap.size by simp]⟩

/-! ## Several cells of one block stored -/
def putL (w : World) (R : Nat) : Nat → List Value → World
  | _, [] => w
  | o, v :: vs => putL (w.setCell ⟨R, o, none⟩ v) R (o + 1) vs
theorem putL_size (R : Nat) : ∀ (vs : List Value) (w : World) (o : Nat), (putL w R o vs).heap.size = w.heap.size
  | [], _, _ => rfl
  | v :: vs, w, o => by rw [putL, putL_size R vs]; simp
theorem putL_other (R : Nat) : ∀ (vs : List Value) (w : World) (o : Nat) (b j : Nat), (b ≠ R ∨ j < o ∨ o + vs.length ≤ j) → (putL w R o vs).cell? ⟨b, j, none⟩ = w.cell? ⟨b, j, none⟩
  | [], _, _, _, _, _ => rfl
  | v :: vs, w, o, b, j, h => by
    rw [putL, putL_other R vs _ (o + 1) b j (by simp only [List.length_cons] at h; omega)]
    exact World.cell?_setCell_other w _ _ v (fun e => by have e1 := congrArg Addr.block e; have e2 := congrArg Addr.off e; simp only [List.length_cons] at h; simp at e1 e2; omega)
theorem putL_frozen (R : Nat) : ∀ (vs : List Value) (w : World) (o : Nat) (a : Addr), (putL w R o vs).frozen? a = w.frozen? a
  | [], _, _, _ => rfl
  | v :: vs, w, o, a => by rw [putL, putL_frozen R vs]; simp
theorem putL_at (R : Nat) : ∀ (vs : List Value) (w : World) (o : Nat) (j : Nat) (u : Value), (∀ k, k < vs.length → ∃ x, w.cell? ⟨R, o + k, none⟩ = some x) → vs[j]? = some u → (putL w R o vs).cell? ⟨R, o + j, none⟩ = some u
  | [], _, _, _, _, _, h => by cases h
  | v :: vs, w, o, 0, u, hc, h => by
    injection h with h
    subst h
    obtain ⟨x, hx⟩ := hc 0 (by simp)
    rw [putL, putL_other R vs _ (o + 1) R (o + 0) (by omega)]
    exact World.cell?_setCell_same w _ _ hx
  | v :: vs, w, o, j + 1, u, hc, h => by
    rw [putL, show o + (j + 1) = (o + 1) + j by omega]
    refine putL_at R vs _ (o + 1) j u (fun k hk => ?_) h
    obtain ⟨x, hx⟩ := hc (k + 1) (by simpa using hk)
    refine ⟨x, ?_⟩
    rw [World.cell?_setCell_other w _ _ v (fun e => by have e2 := congrArg Addr.off e; simp at e2; omega), show o + 1 + k = o + (k + 1) by omega]
    exact hx
theorem putL_below {B R : Nat} (hR : B ≤ R) : ∀ (vs : List Value) (w0 w : World) (o : Nat), Below B w0 w → Below B w0 (putL w R o vs)
  | [], _, _, _, h => h
  | v :: vs, w0, w, o, h => putL_below hR vs w0 _ (o + 1) (h.setCell (p := ⟨R, o, none⟩) hR v)
theorem putL_ot {B R g cap : Nat} {sl : Nat → Sl} {t : FT} (hR : R < B) : ∀ (vs : List Value) (w : World) (o : Nat), OT w B g cap sl t → OT (putL w R o vs) B g cap sl t
  | [], _, _, h => h
  | v :: vs, w, o, h => putL_ot hR vs _ (o + 1) (h.low (p := ⟨R, o, none⟩) hR v)
theorem putL_rps {lo R B : Nat} {vd vn : Value} {p : Rp} (hR : R < lo) : ∀ (vs : List Value) (w : World) (o : Nat), RpS w lo B vd vn p → RpS (putL w R o vs) lo B vd vn p
  | [], _, _, h => h
  | v :: vs, w, o, h => putL_rps hR vs _ (o + 1) (h.low (a := ⟨R, o, none⟩) hR v)
theorem Blk.putL {w : World} {n R : Nat} {l : List Value} (h : Blk w n l) (hn : n ≠ R) : ∀ (vs : List Value) (o : Nat), Blk (Go.Proofs.YtmbbmmnpkdfecaaGreatDoor.putL w R o vs) n l := fun vs o =>
  ⟨by rw [putL_size]; exact h.lt, fun j v hj => (putL_other R vs w o n j (.inl hn)).trans (h.c j v hj), fun j hj => (putL_frozen R vs w o _).trans (h.f j hj)⟩
/-- A block with m cells. -/
structure RowE (w : World) (R m : Nat) : Prop where
  lt : R < w.heap.size
  c : ∀ k, k < m → ∃ v, w.cell? ⟨R, k, none⟩ = some v
  f : ∀ k, w.frozen? ⟨R, k, none⟩ = false
theorem RowE.up {w w' : World} {R m : Nat} (h : RowE w R m) (hb : Below w.heap.size w w') : RowE w' R m :=
  ⟨Nat.lt_of_lt_of_le h.lt hb.size, fun k hk => by obtain ⟨v, hv⟩ := h.c k hk; exact ⟨v, (hb.cell (p := ⟨R, k, none⟩) h.lt).trans hv⟩, fun k => (hb.frozen (p := ⟨R, k, none⟩) h.lt).trans (h.f k)⟩
theorem RowE.far {w : World} {R m : Nat} (h : RowE w R m) {p : Addr} (hp : R ≠ p.block) (u : Value) : RowE (w.setCell p u) R m :=
  ⟨by simpa using h.lt, fun k hk => by obtain ⟨v, hv⟩ := h.c k hk; exact ⟨v, (World.cell?_setCell_other w p _ u (fun e => hp (congrArg Addr.block e).symm)).trans hv⟩, fun k => by simpa using h.f k⟩
theorem RowE.putL {w : World} {R m : Nat} (h : RowE w R m) (o : Nat) (vs : List Value) (ho : o + vs.length ≤ m) : RowE (Go.Proofs.YtmbbmmnpkdfecaaGreatDoor.putL w R o vs) R m :=
  ⟨by rw [putL_size]; exact h.lt, fun k hk => by
    by_cases h1 : k < o ∨ o + vs.length ≤ k
    · obtain ⟨v, hv⟩ := h.c k hk
      exact ⟨v, (putL_other R vs w o R k (.inr h1)).trans hv⟩
    · have h2 : o ≤ k ∧ k - o < vs.length := by omega
      refine ⟨vs[k - o]'h2.2, ?_⟩
      have := putL_at R vs w o (k - o) _ (fun q hq => h.c (o + q) (by omega)) (List.getElem?_eq_getElem h2.2)
      rwa [show o + (k - o) = k by omega] at this, fun k => (putL_frozen R vs w o _).trans (h.f k)⟩
/-- One more reply. -/
theorem Rps.snoc {w : World} {lo R m : Nat} {ps : List Rp} {vd vn : Value} {p : Rp} (h : Rps w lo R ps) (hR : R < lo) (hs : RpS w lo w.heap.size vd vn p) (he : RowE w R m) (hm : (ps.length + 1) * 9 ≤ m) :
    Rps (putL w R (ps.length * 9) [.int .i64 p.c, vd, vn, .int .i64 p.s.i, .int .i64 p.s.k, .int .i64 p.s.o, .int .i64 p.s.z, .int .i64 p.s.l, .int .i64 p.s.v]) lo R (ps ++ [p]) := by
  intro j hj
  have hc := fun k (hk : k < 9) => he.c (ps.length * 9 + k) (by omega)
  by_cases e : j = ps.length
  · subst e
    have hp : (ps ++ [p]).getD ps.length Rp0 = p := by
      rw [List.getD_eq_getElem?_getD, List.getElem?_append_right (Nat.le_refl _)]; simp
    rw [hp]
    refine ⟨vd, vn, ⟨putL_at R _ w _ 0 _ hc rfl, putL_at R _ w _ 1 _ hc rfl, putL_at R _ w _ 2 _ hc rfl, putL_at R _ w _ 3 _ hc rfl, putL_at R _ w _ 4 _ hc rfl, putL_at R _ w _ 5 _ hc rfl, putL_at R _ w _ 6 _ hc rfl, putL_at R _ w _ 7 _ hc rfl, putL_at R _ w _ 8 _ hc rfl⟩, ?_⟩
    rw [putL_size]
    exact putL_rps hR _ _ _ hs
  · have hl : j < ps.length := by simp at hj; omega
    have hp : (ps ++ [p]).getD j Rp0 = ps.getD j Rp0 := by
      rw [List.getD_eq_getElem?_getD, List.getD_eq_getElem?_getD, List.getElem?_append_left hl]
    rw [hp]
    obtain ⟨vd', vn', ⟨c0, c1, c2, c3, c4, c5, c6, c7, c8⟩, hs'⟩ := h j hl
    have k : ∀ i v, i < 9 → w.cell? ⟨R, j * 9 + i, none⟩ = some v → (putL w R (ps.length * 9) [.int .i64 p.c, vd, vn, .int .i64 p.s.i, .int .i64 p.s.k, .int .i64 p.s.o, .int .i64 p.s.z, .int .i64 p.s.l, .int .i64 p.s.v]).cell? ⟨R, j * 9 + i, none⟩ = some v := fun i v hi hv =>
      (putL_other R _ w _ R (j * 9 + i) (.inr (.inl (by omega)))).trans hv
    refine ⟨vd', vn', ⟨k 0 _ (by omega) c0, k 1 _ (by omega) c1, k 2 _ (by omega) c2, k 3 _ (by omega) c3, k 4 _ (by omega) c4, k 5 _ (by omega) c5, k 6 _ (by omega) c6, k 7 _ (by omega) c7, k 8 _ (by omega) c8⟩, ?_⟩
    rw [putL_size]
    exact putL_rps hR _ _ _ hs'

end Go.Proofs.YtmbbmmnpkdfecaaGreatDoor

/- What the arguments of the file system's laws are: trees with their files' bytes, slices of requests. No condition beyond the argument's own. -/

set_option linter.all false
namespace Go.Proofs.YtmbbmmnpkdfecaaGreatDoor
open Go.ChangeShapes Go.WideShapes Go.ChangeAt Go.RowKit Go.Deep

instance : Inhabited Ino := ⟨I0⟩

section
variable {H : Type} {enc : TypeId × Value → H} {W : World}
set_option maxRecDepth 100000 in
/-- Eight cells that read as an inode with its bytes. -/
theorem ino_of {n : Nat} {cs : List Value} {y : DataW H × List MemPlace}
    (h : DataW.trod enc Tryz.prog W 0 (fun _ => true) true n 63 cs = some y) (hw : Held Tryz.prog 63 y.1) :
    ∃ (x : Ino) (s : Sl), cs = inoL x s ∧ NodS W W.heap.size s.e s.d s.a s.x x.nod ∧ Byts W W.heap.size s.d x.d := by
  obtain ⟨ve, vd, va, vx, x, rfl, hS⟩ := nod_of h hw
  obtain ⟨_, y3, g3, w3⟩ := trod_field nod_under nod_fields h (j := 3) (tj := 25) (oj := 3) rfl
  rw [sl_cells2] at g3
  replace w3 := w3 hw
  simp only [List.drop_succ_cons, List.drop_zero, List.take_succ_cons, List.take_zero] at g3
  obtain ⟨a3, c3, rfl, hc3⟩ := id hS.dl
  obtain ⟨d, hD⟩ := byts_of g3 w3
  have hl : x.dl = d.length := by
    obtain ⟨_, _, hv, _⟩ := hD
    injection hv
  obtain ⟨k, o, es, dl, ac, xs, q, v⟩ := x
  simp only at hl
  subst hl
  exact ⟨⟨k, o, es, d, ac, xs, q, v⟩, ⟨ve, _, va, vx⟩, rfl, hS, hD⟩

set_option maxRecDepth 100000 in
/-- One cell that reads as a tree with its files' bytes. -/
theorem ftree_of {n : Nat} {cs : List Value} {y : DataW H × List MemPlace}
    (h : DataW.trod enc Tryz.prog W 0 (fun _ => true) true n 24 cs = some y) (hw : Held Tryz.prog 24 y.1) :
    ∃ (a : Option Addr) (c : Nat) (t : FT), cs = [.slice a t.length c] ∧ FNods W W.heap.size a c t := by
  obtain ⟨xs, n', _, _, hlen, _, _⟩ := DataW.trod_struct tree_under h
  rw [tree_cells] at hlen
  obtain ⟨c0, rfl⟩ := one_of hlen
  obtain ⟨_, y0, g0, w0⟩ := trod_field tree_under tree_fields h (j := 0) (tj := 22) (oj := 0) rfl
  rw [sl_cells0] at g0
  simp only [List.drop_zero, List.take_succ_cons, List.take_zero] at g0
  replace w0 := w0 hw
  rcases open_slice Tryz.underlying22 g0 with ⟨hcs, hx⟩ | ⟨ad, len, cap, m, n, D, Pl, hcs, _, hl, hm, hmm, hx, hi⟩
  · exact ⟨none, 0, [], by simpa using hcs, ⟨by simp, by simp, fun h => absurd h (by simp)⟩⟩
  · rw [hcs]
    simp only [if_true] at hmm
    rw [hx] at w0
    have hr := w0.slice Tryz.underlying22
    rw [nod_bytes, reach_num] at hr
    simp only [List.length_map, List.length_range] at hr
    have key : ∀ i, i < len → ∃ x : Ino, ∃ s : Sl, (∃ cs', W.cells? 0 (ad.add (i * 8)) 8 = some cs' ∧ cs' = inoL x s) ∧ NodS W W.heap.size s.e s.d s.a s.x x.nod ∧ Byts W W.heap.size s.d x.d := by
      intro i hil
      obtain ⟨cs', hc, ht⟩ := hi i (by omega)
      rw [nod_cells] at hc
      obtain ⟨x, s, h1, h2⟩ := ino_of ht (w0.elem Tryz.underlying22 (List.mem_map.2 ⟨i, List.mem_range.2 hil, rfl⟩))
      exact ⟨x, s, ⟨cs', hc, h1⟩, h2⟩
    obtain ⟨X, hX⟩ := choose_lt (α := Ino) (p := fun i x => ∃ s : Sl, (∃ cs', W.cells? 0 (ad.add (i * 8)) 8 = some cs' ∧ cs' = inoL x s) ∧ NodS W W.heap.size s.e s.d s.a s.x x.nod ∧ Byts W W.heap.size s.d x.d) key
    refine ⟨some ad, cap, (List.range len).map X, by simp, ⟨by simp; omega, by simp; omega, fun hp0 => ?_⟩⟩
    have hp : 0 < len := by simpa using hp0
    clear hp0
    obtain ⟨b, off, spot⟩ := ad
    obtain ⟨_, ⟨cs', hc, rfl⟩, _⟩ := hX 0 hp
    obtain ⟨_, _, hat⟩ := World.cells?_some hc
    have hc0 := hat 0 (by omega)
    have hspot : spot = none := by simpa [Addr.add] using World.cell?_spot hc0
    subst hspot
    have hlt : b < W.heap.size := by have := cell_lt hc0; simpa [Addr.add] using this
    clear hc hat hc0
    refine ⟨b, off, rfl, hlt, fun j hj => ?_⟩
    have hj : j < len := by simpa using hj
    have hg : ino ((List.range len).map X) j = X j := by
      unfold ino
      rw [List.getD_eq_getElem?_getD, List.getElem?_eq_getElem (by simpa using hj)]; simp
    rw [hg]
    obtain ⟨s, ⟨cs', hc, rfl⟩, hS, hY⟩ := hX j hj
    obtain ⟨_, _, hat⟩ := World.cells?_some hc
    refine ⟨s, ?_, hS, hY⟩
    have h0 := hat 0 (by omega)
    have h1 := hat 1 (by omega)
    have h2 := hat 2 (by omega)
    have h3 := hat 3 (by omega)
    have h4 := hat 4 (by omega)
    have h5 := hat 5 (by omega)
    have h6 := hat 6 (by omega)
    have h7 := hat 7 (by omega)
    rw [Go.Deep.add_add, add_plain] at h0 h1 h2 h3 h4 h5 h6 h7
    exact ⟨h0, h1, h2, h3, h4, h5, h6, h7⟩
end

end Go.Proofs.YtmbbmmnpkdfecaaGreatDoor
