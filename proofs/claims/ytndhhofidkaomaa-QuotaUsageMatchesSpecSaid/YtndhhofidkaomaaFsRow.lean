/- Rows of routes: visits as path, depth and inode; the path of a visit in bytes; an append to such a row. Conditions: as each theorem states. -/
import Derived.Test.YtndhhofidkaomaaFsSpec
import Derived.Test.YtndhhofidkaomaaFsFrame
import Derived.Laws.AppendOwn
import Derived.Laws.AppendOwnNone
import Derived.OwnWalk

set_option linter.all false
namespace Go.Proofs.Ytndhhofidkaomaa
open Go.RowKit

/-! ## Paths in bytes -/
def flatP (xs : List ByteArray) : List UInt8 := xs.flatMap fun x => 47 :: x.data.toList
theorem flatP_snoc (xs : List ByteArray) (x : ByteArray) : flatP (xs ++ [x]) = flatP xs ++ 47 :: x.data.toList := by
  unfold flatP; rw [List.flatMap_append]; simp
theorem pstr_snoc (xs : List ByteArray) (x : ByteArray) : pstr (xs ++ [x]) = flatP xs ++ 47 :: x.data.toList := by
  unfold pstr; rw [if_neg (by simp)]; exact flatP_snoc xs x
theorem pstr_flat {xs : List ByteArray} (h : xs ≠ []) : pstr xs = flatP xs := by unfold pstr; rw [if_neg h]; rfl
def bP (xs : List ByteArray) : ByteArray := ⟨(pstr xs).toArray⟩
theorem bP_snoc (xs : List ByteArray) (x : ByteArray) : (⟨(flatP xs).toArray⟩ ++ ⟨#[47]⟩ ++ x : ByteArray) = bP (xs ++ [x]) := by
  unfold bP
  rw [pstr_snoc]
  apply ByteArray.ext
  simp
theorem bP_nil : bP [] = ⟨#[47]⟩ := rfl
theorem bP_ne {xs : List ByteArray} (h : xs ≠ []) (hv : ∀ x ∈ xs, vname x = true) : bP xs ≠ ⟨#[47]⟩ := by
  intro e
  have h1 := congrArg (fun b : ByteArray => b.data.toList) e
  simp only [bP] at h1
  rw [pstr_flat h] at h1
  cases xs with
  | nil => exact h rfl
  | cons x r =>
    have hx := (vname_size (hv x (by simp))).1
    have h2 := congrArg List.length h1
    have h3 : x.data.toList.length = x.size := by simp
    simp only [flatP, List.flatMap_cons, List.length_append, List.length_cons, List.length_nil] at h2
    simp at h2
    omega
theorem bP_size {xs : List ByteArray} (hv : ∀ x ∈ xs, vname x = true) : (bP xs).size ≤ 13 * xs.length + 1 := by
  have h1 := flat_len xs hv
  have e : (bP xs).size = (pstr xs).length := by unfold bP; simp [ByteArray.size]
  rw [e]
  unfold pstr
  split
  · simp
  · omega
theorem flatP_size {xs : List ByteArray} (hv : ∀ x ∈ xs, vname x = true) : (flatP xs).length ≤ 13 * xs.length := flat_len xs hv

/-! ## Visits as cells -/
abbrev V0 : Vis := ([], 0)
def cellsV (p : Vis) : List Value := [.string (bP p.1), .int .i64 (p.1.length : Nat), .int .i64 (p.2 : Nat)]
def flatV (L : List Vis) : List Value := L.flatMap cellsV
theorem flatV_cons (p : Vis) (L : List Vis) : flatV (p :: L) = .string (bP p.1) :: .int .i64 (p.1.length : Nat) :: .int .i64 (p.2 : Nat) :: flatV L := by
  unfold flatV cellsV; rw [List.flatMap_cons]; rfl
theorem flatV_append (L M : List Vis) : flatV (L ++ M) = flatV L ++ flatV M := by unfold flatV; rw [List.flatMap_append]
theorem flatV_len : ∀ L : List Vis, (flatV L).length = L.length * 3
  | [] => rfl
  | p :: L => by rw [flatV_cons]; simp only [List.length_cons]; rw [flatV_len L]; omega
theorem flatV_one : ∀ (L : List Vis), ∀ u ∈ flatV L, u.oneCell' = true
  | [], u, h => by simp [flatV] at h
  | p :: L, u, h => by
    rw [flatV_cons] at h
    rcases List.mem_cons.1 h with rfl | h
    · rfl
    · rcases List.mem_cons.1 h with rfl | h
      · rfl
      · rcases List.mem_cons.1 h with rfl | h
        · rfl
        · exact flatV_one L u h
theorem flatV_get : ∀ (L : List Vis) (j : Nat), j < L.length →
    (flatV L)[j * 3]? = some (.string (bP (L.getD j V0).1)) ∧ (flatV L)[j * 3 + 1]? = some (.int .i64 ((L.getD j V0).1.length : Nat)) ∧ (flatV L)[j * 3 + 2]? = some (.int .i64 ((L.getD j V0).2 : Nat))
  | [], j, h => absurd h (by simp)
  | p :: L, 0, _ => by rw [flatV_cons]; simp
  | p :: L, j + 1, h => by
    have ih := flatV_get L j (by simpa using h)
    have e1 : (j + 1) * 3 = j * 3 + 1 + 1 + 1 := by omega
    rw [flatV_cons, e1]
    simpa using ih
theorem visD {L : List Vis} {k : Nat} (h : k < L.length) : L.getD k V0 = L[k] := by
  rw [List.getD_eq_getElem?_getD, List.getElem?_eq_getElem h]; rfl
/-- The slice value v reads as these visits, all of it below block B. -/
def Vs (w : World) (B : Nat) (v : Value) (L : List Vis) : Prop :=
  ∃ b c, v = .slice (some ⟨b, 0, none⟩) L.length c ∧ L.length ≤ c ∧ 0 < L.length ∧ b < B ∧ ∀ j, j < L.length →
      w.cell? ⟨b, j * 3, none⟩ = some (.string (bP (L.getD j V0).1)) ∧ w.cell? ⟨b, j * 3 + 1, none⟩ = some (.int .i64 ((L.getD j V0).1.length : Nat)) ∧ w.cell? ⟨b, j * 3 + 2, none⟩ = some (.int .i64 ((L.getD j V0).2 : Nat))
theorem Vs.below {w w' : World} {B : Nat} {v : Value} {L : List Vis} (h : Vs w B v L) (hb : Below B w w') : Vs w' B v L := by
  obtain ⟨b, c, hv, hc, h0, hB, hj⟩ := h
  refine ⟨b, c, hv, hc, h0, hB, fun j hl => ?_⟩
  rw [hb.cell (p := ⟨b, _, none⟩) hB, hb.cell (p := ⟨b, _, none⟩) hB, hb.cell (p := ⟨b, _, none⟩) hB]
  exact hj j hl
theorem Vs.more {w : World} {B B' : Nat} {v : Value} {L : List Vis} (h : Vs w B v L) (hB : B ≤ B') : Vs w B' v L := by
  obtain ⟨b, c, hv, hc, h0, hb, hj⟩ := h
  exact ⟨b, c, hv, hc, h0, by omega, hj⟩
theorem Vs.up {w w' : World} {v : Value} {L : List Vis} (h : Vs w w.heap.size v L) (hb : Below w.heap.size w w') : Vs w' w'.heap.size v L := (h.below hb).more hb.size
theorem vs_own {w : World} {base n : Nat} {v : Value} {L : List Vis} (h : w.ownsRow base 58 3 v n (flatV L)) (h0 : 0 < L.length) : Vs w w.heap.size v L := by
  have hn : n = L.length := by have := h.1; rw [flatV_len] at this; omega
  subst hn
  rcases h.2 with ⟨hv, hz⟩ | ⟨g, cap, cur, hv, _, hg, hnc, _, _, _⟩
  · omega
  · have hlt : g < w.heap.size := (Array.getElem?_eq_some_iff.1 hg).1
    rw [hv] at h
    refine ⟨g, cap, hv, hnc, h0, hlt, fun j hj => ?_⟩
    obtain ⟨h1, h2, h3⟩ := flatV_get L j hj
    rw [← h.cellAt (j * 3) (by omega)] at h1
    rw [← h.cellAt (j * 3 + 1) (by omega)] at h2
    rw [← h.cellAt (j * 3 + 2) (by omega)] at h3
    exact ⟨h1, h2, h3⟩
theorem vs_new (w : World) (p : Vis) : (w.alloc (.cells #[.string (bP p.1), .int .i64 (p.1.length : Nat), .int .i64 (p.2 : Nat)] 58)).ownsRow w.heap.size 58 3 (.slice (some ⟨w.heap.size, 0, none⟩) 1 1) 1 (flatV [p]) :=
  ⟨rfl, .inr ⟨_, 1, _, rfl, Nat.le_refl _, heap_alloc_new w _, by omega, by simp [maxLen], rfl, rfl⟩⟩

theorem rt_info : (Try.prog.info? 58).map (fun i => (i.zero, i.size, i.bytes)) = some (some (.agg #[.string ByteArray.empty, .int .i64 0, .int .i64 0]), 3, 32) := by kernel_rfl

set_option maxRecDepth 100000 in
/-- append(row, x): row a row of the call's own, x one route in a block of its own; where the new row lies. -/
theorem wpList_append_rt {w : World} {ops : Array Oper} {rest : List Oper} {o : Oper} {a : Act} {Q : Exit → Act → World → Prop} (hgd : o.guard = none) (s x : Operand)
    (ho : o.op = .call { callee := .builtin .append, args := #[s, x], argTypes := #[55, 55] })
    (base : Nat) (v : Value) (n : Nat) (L : List Vis) (hs : a.eval s = v) (hown : w.ownsRow base 58 3 v n (flatV L))
    (q : Nat) (p : Vis) (hx : a.eval x = .slice (some ⟨q, 0, none⟩) 1 1)
    (h0 : w.cell? ⟨q, 0, none⟩ = some (.string (bP p.1))) (h1 : w.cell? ⟨q, 1, none⟩ = some (.int .i64 (p.1.length : Nat))) (h2 : w.cell? ⟨q, 2, none⟩ = some (.int .i64 (p.2 : Nat)))
    (hn : n ≤ 100000) (hbase : base ≤ w.heap.size)
    (h : ∀ v' w', w'.ownsRow base 58 3 v' (n + 1) (flatV (L ++ [p])) → w.grownBy w' v.ownBlock → (v'.ownBlock = v.ownBlock ∨ v'.ownBlock = some w.heap.size) → wpList Try.prog ops Q rest (a.put o.dst v') w') : wpList Try.prog ops Q (o :: rest) a w := by
  obtain ⟨i0, hi, hz0, hz1, hz2⟩ := info_parts rt_info
  refine wpList_plain hgd fun K hK2 => ?_
  obtain ⟨v', w', hrun, g1, g2, _, g3⟩ := run_append_own_at (P := Try.prog) w base 55 o.type 58 i0 _ 3 32 Try.underlying55 hi hz0 hz1 hz2 rfl (by omega) v n (flatV L) hown ⟨q, 0, none⟩ 1 1 (flatV [p]) rfl (by
      intro j u hu
      have hjl : j < 3 := by
        have := (List.getElem?_eq_some_iff.1 hu).1
        simpa [flatV_len] using this
      have hadd : (⟨q, 0, none⟩ : Addr).add j = ⟨q, j, none⟩ := by unfold Addr.add; split <;> simp_all
      rw [hadd]
      match j, hjl with
      | 0, _ => simp [flatV, cellsV] at hu; subst hu; exact h0
      | 1, _ => simp [flatV, cellsV] at hu; subst hu; exact h1
      | 2, _ => simp [flatV, cellsV] at hu; subst hu; exact h2) (flatV_one _) (by unfold maxLen; omega) (by omega) hbase
  unfold Oper.wp
  simp [execOp, ho, resolve, invoke, builtin, hs, hx, hrun, Result.andThen]
  exact hK2 _ _ (h v' w' (by rw [flatV_append]; exact g1) g2 g3)

end Go.Proofs.Ytndhhofidkaomaa
