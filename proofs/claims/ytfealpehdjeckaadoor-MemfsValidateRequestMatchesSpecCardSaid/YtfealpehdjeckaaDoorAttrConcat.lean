/- slices.Grow from nil and slices.Concat at lists of attributes: a new list of all attributes in order. Conditions: the slices' cells lie in memory as they read; a thousand attributes together at the most. -/
import Derived.Test.YtfealpehdjeckaaDoorAttrLeaves
import Derived.Deep.LoopGhost
import Derived.Lib.AppendZerosOnto
import Derived.Lib.SliceRun
namespace Go.Proofs.YtfealpehdjeckaaDoor
open Go.RowKit

theorem own_zero {w : World} {base g cap : Nat} {cur : Array Value} (hb : base ≤ g) (hg : w.heap[g]? = some (.cells cur 25)) (hc : cap ≤ maxLen) (hs : cur.size = cap * 2) : w.ownsRow base 25 2 (.slice (some ⟨g, 0, none⟩) 0 cap) 0 [] := by
  refine ⟨rfl, .inr ⟨_, cap, cur, rfl, hb, hg, Nat.zero_le _, hc, hs, ?_⟩⟩
  simp

set_option maxRecDepth 100000 in
set_option maxHeartbeats 2000000 in
theorem grow_any (n : Nat) (w : World) (hn : n ≤ 100000) :
    Calls Tryd.prog 36 #[.slice none 0 0, .int .i64 (n : Int)] w fun e w' => ∃ v, e = .returned v ∧ w'.ownsRow w.heap.size 25 2 v 0 (flatA []) ∧ Below w.heap.size w w' := by
  obtain ⟨i0, hi, hz0, hz1, hz2⟩ := info_parts attr_info
  have h0 : (0 : Int) ≤ (n : Int) := Int.natCast_nonneg _
  by_cases hp : 0 < n
  · have hrz : ∀ ty, (Builtin.append_ #[45, 3] ty #[.slice none 0 0, .int .i64 (n : Int)]).run Tryd.prog w =
        .ok (.slice (some ⟨w.heap.size, 0, none⟩) n (grownCap w n 0 25)) (w.drew.alloc (.cells (#[] ++ Builtin.zeroCells (Value.agg #[.string ByteArray.empty, .string ByteArray.empty]).cells n ++ Builtin.zeroCells (Value.agg #[.string ByteArray.empty, .string ByteArray.empty]).cells (grownCap w n 0 25 - n)) 25)) := fun ty => by
      have h := Lib.run_append_grow_zeros w 45 3 ty 25 i0 _ .i64 .i64 Tryd.underlying45 Tryd.underlying3 hi hz0 none 0 0 [] (by exact run_firstCells_none w.drew i0.size 0 0 0) n hp (by omega) (by omega) (by omega) (by rw [hz2]; omega)
        (growslice_fits (by omega) (by rw [hz2]; omega))
      simpa using h
    have hG : n ≤ grownCap w n 0 25 := grownCap_ge w _ _ _
    have hG63 := grownCap_le_maxLen w n 0 25 (by unfold maxLen; omega)
    generalize grownCap w n 0 25 = G at *
    have hG2 : G ≤ 9223372036854775807 := by unfold maxLen at hG63; omega
    have hOWN : Hid (∀ W : World, W.heap.size = w.heap.size → (W.alloc (.cells (#[] ++ Builtin.zeroCells (Value.agg #[.string ByteArray.empty, .string ByteArray.empty]).cells n ++ Builtin.zeroCells (Value.agg #[.string ByteArray.empty, .string ByteArray.empty]).cells (G - n)) 25)).ownsRow w.heap.size 25 2 (.slice (some ⟨w.heap.size, 0, none⟩) 0 G) 0 (flatA [])) := Lib.hid (fun W hW => by
      refine own_zero (Nat.le_refl _) (by rw [← hW]; exact heap_alloc_new W _) hG63 ?_
      simp [Builtin.zeroCells, Value.cells]
      omega)
    generalize (#[] ++ Builtin.zeroCells (Value.agg #[.string ByteArray.empty, .string ByteArray.empty]).cells n ++ Builtin.zeroCells (Value.agg #[.string ByteArray.empty, .string ByteArray.empty]).cells (G - n)) = CS at *
    clear hi hz0 hz1 hz2
    go_enter Tryd.func36, Tryd.ntmps36
    go_wp2_with (at_builtin; refine Lib.wpList_append_run _ rfl _ _ _ _ rfl _ _ rfl rfl _ _ (hrz _) ?_)
    all_goals
      go_ret
      exact ⟨_, rfl, hOWN.out _ rfl, ((Below.refl _ _).drew).alloc (Nat.le_refl _) _⟩
  · obtain rfl : n = 0 := by omega
    clear hi hz0 hz1 hz2
    go_enter Tryd.func36, Tryd.ntmps36
    go_wp2
    go_ret
    exact ⟨_, rfl, ⟨rfl, .inl ⟨rfl, rfl⟩⟩, Below.refl _ _⟩

/-- The slice v of slices reads as the lists xss, all of it below block B. -/
def Ass (w : World) (B : Nat) (v : Value) (vs : List Value) (xss : List (List Attr)) : Prop :=
  ∃ a c, v = .slice a xss.length c ∧ xss.length ≤ c ∧ xss.length ≤ 1000 ∧ (∀ j, j < xss.length → Ats w B (vs.getD j undef) (xss.getD j [])) ∧
    (0 < xss.length → ∃ b o, a = some ⟨b, o, none⟩ ∧ b < B ∧ ∀ j, j < xss.length → w.cell? ⟨b, o + j, none⟩ = some (vs.getD j undef))
theorem Ass.below {w w' : World} {B : Nat} {v : Value} {vs : List Value} {xss : List (List Attr)} (h : Ass w B v vs xss) (hb : Below B w w') : Ass w' B v vs xss := by
  obtain ⟨a, c, hv, hc, hl, hA, hx⟩ := h
  refine ⟨a, c, hv, hc, hl, fun j hj => (hA j hj).below hb, fun h0 => ?_⟩
  obtain ⟨b, o, ha, hB, hj⟩ := hx h0
  exact ⟨b, o, ha, hB, fun j h => (hb.cell (p := ⟨b, o + j, none⟩) hB).trans (hj j h)⟩
theorem Ass.more {w : World} {B B' : Nat} {v : Value} {vs : List Value} {xss : List (List Attr)} (h : Ass w B v vs xss) (hB : B ≤ B') : Ass w B' v vs xss := by
  obtain ⟨a, c, hv, hc, hl, hA, hx⟩ := h
  refine ⟨a, c, hv, hc, hl, fun j hj => (hA j hj).more hB, fun h0 => ?_⟩
  obtain ⟨b, o, ha, hb, hj⟩ := hx h0
  exact ⟨b, o, ha, by omega, hj⟩
theorem Ass.up {w w' : World} {v : Value} {vs : List Value} {xss : List (List Attr)} (h : Ass w w.heap.size v vs xss) (hb : Below w.heap.size w w') : Ass w' w'.heap.size v vs xss :=
  (h.below hb).more hb.size
theorem ass_two (w : World) (n : Nat) (hn : n = w.heap.size) (u1 u2 : Value) (xs ys : List Attr) (h1 : Ats w w.heap.size u1 xs) (h2 : Ats w w.heap.size u2 ys) (t : TypeId) : Ass (w.alloc (.cells #[u1, u2] t)) (w.heap.size + 1) (.slice (some ⟨n, 0, none⟩) 2 2) [u1, u2] [xs, ys] := by
  subst hn
  refine ⟨_, _, rfl, by simp, by simp, ?_, fun _ => ⟨_, _, rfl, by simp, ?_⟩⟩
  · intro j hj
    match j, hj with
    | 0, _ => exact (h1.alloc (Nat.le_refl _) _).more (by simp)
    | 1, _ => exact (h2.alloc (Nat.le_refl _) _).more (by simp)
  · intro j hj
    match j, hj with
    | 0, _ => simp
    | 1, _ => simp
theorem ass_three (w : World) (n : Nat) (hn : n = w.heap.size) (u1 u2 u3 : Value) (xs ys zs : List Attr) (h1 : Ats w w.heap.size u1 xs) (h2 : Ats w w.heap.size u2 ys) (h3 : Ats w w.heap.size u3 zs) (t : TypeId) : Ass (w.alloc (.cells #[u1, u2, u3] t)) (w.heap.size + 1) (.slice (some ⟨n, 0, none⟩) 3 3) [u1, u2, u3] [xs, ys, zs] := by
  subst hn
  refine ⟨_, _, rfl, by simp, by simp, ?_, fun _ => ⟨_, _, rfl, by simp, ?_⟩⟩
  · intro j hj
    match j, hj with
    | 0, _ => exact (h1.alloc (Nat.le_refl _) _).more (by simp)
    | 1, _ => exact (h2.alloc (Nat.le_refl _) _).more (by simp)
    | 2, _ => exact (h3.alloc (Nat.le_refl _) _).more (by simp)
  · intro j hj
    match j, hj with
    | 0, _ => simp
    | 1, _ => simp
    | 2, _ => simp
theorem Ats.fixed {w w' : World} {B : Nat} {v : Value} {xs : List Attr} (h : Ats w B v xs) (hk : ∀ b o, b < B → w'.cell? ⟨b, o, none⟩ = w.cell? ⟨b, o, none⟩) : Ats w' B v xs := h.keep hk

/-- All attributes of the first k lists. -/
def flatK (xss : List (List Attr)) (k : Nat) : List Attr := (xss.take k).flatten
theorem flatK_succ {xss : List (List Attr)} {k : Nat} (h : k < xss.length) : flatK xss (k + 1) = flatK xss k ++ xss.getD k [] := by
  unfold flatK
  rw [List.take_succ_eq_append_getElem h, List.flatten_append, List.getD_eq_getElem?_getD, List.getElem?_eq_getElem h]
  simp
theorem flatK_all (xss : List (List Attr)) : flatK xss xss.length = xss.flatten := by unfold flatK; rw [List.take_length]
theorem flatK_le {xss : List (List Attr)} : ∀ k, (flatK xss k).length ≤ xss.flatten.length := fun k => by
  have h : xss.flatten = flatK xss k ++ (xss.drop k).flatten := by
    unfold flatK; rw [← List.flatten_append, List.take_append_drop]
  rw [h]; simp
theorem flatK_fits {xss : List (List Attr)} (h : ∀ xs ∈ xss, ∀ e ∈ xs, e.fits) : ∀ e ∈ xss.flatten, e.fits := fun e he => by
  obtain ⟨xs, h1, h2⟩ := List.mem_flatten.1 he
  exact h xs h1 e h2
theorem Ass.fits {w : World} {B : Nat} {v : Value} {vs : List Value} {xss : List (List Attr)} (h : Ass w B v vs xss) : ∀ e ∈ xss.flatten, e.fits := by
  obtain ⟨a, c, hv, hc, hl, hA, hx⟩ := h
  refine flatK_fits fun xs hxs => ?_
  obtain ⟨j, hj, rfl⟩ := List.mem_iff_getElem.1 hxs
  have := (hA j hj).fits
  rwa [List.getD_eq_getElem?_getD, List.getElem?_eq_getElem hj] at this

/-- A row of attributes that a call owns, in a block from base on. -/
structure Aown (w : World) (base : Nat) (v : Value) (xs : List Attr) : Prop where
  own : w.ownsRow base 25 2 v xs.length (flatA xs)
  fits : ∀ e ∈ xs, e.fits
  len : xs.length ≤ 4398046511104
theorem Aown.ats {w : World} {base : Nat} {v : Value} {xs : List Attr} (h : Aown w base v xs) : Ats w w.heap.size v xs := ats_own h.own h.fits h.len
theorem Aown.row {w : World} {base B : Nat} {v : Value} {xs : List Attr} (h : Aown w base v xs) (hb : B ≤ base) : w.ownsRow B 25 2 v xs.length (flatA xs) := by
  refine ⟨h.own.1, ?_⟩
  rcases h.own.2 with hn | ⟨g, c, cur, hv, hg, r⟩
  · exact .inl hn
  · exact .inr ⟨g, c, cur, hv, Nat.le_trans hb hg, r⟩
theorem Aown.far {w : World} {base : Nat} {v : Value} {xs : List Attr} (h : Aown w base v xs) {p : Addr} (hp : p.block < base) (u : Value) : Aown (w.setCell p u) base v xs := by
  refine ⟨ownsRow_setCell_other h.own (a := p) (fun e => ?_) u, h.fits, h.len⟩
  have := (h.own.lt _ e).1
  omega
theorem Aown.below {w w' : World} {base : Nat} {v : Value} {xs : List Attr} (h : Aown w base v xs) (hb : Below w.heap.size w w') : Aown w' base v xs :=
  ⟨own_below h.own hb, h.fits, h.len⟩
theorem Aown.form {w : World} {base : Nat} {v : Value} {xs : List Attr} (h : Aown w base v xs) : ∃ a c, v = .slice a xs.length c ∧ xs.length ≤ c := h.ats.form rfl
def ConcPost (xss : List (List Attr)) (w : World) (e : Ending) (w' : World) : Prop :=
  ∃ v, e = .returned v ∧ Aown w' w.heap.size v xss.flatten ∧ Below w.heap.size w w'

set_option maxRecDepth 100000 in
set_option maxHeartbeats 2000000 in
theorem concat_any (v : Value) (vs : List Value) (xss : List (List Attr)) (w : World) (h : Ass w w.heap.size v vs xss) (ht : xss.flatten.length ≤ 1000) :
    Calls Tryd.prog 26 #[v] w (ConcPost xss w) := by
  have HF := Lib.hid h.fits
  obtain ⟨a, c, rfl, hc, hl, hA, hx⟩ := h
  have HX := Lib.hid hx
  have HA := Lib.hid hA
  have HT := Lib.hid ht
  clear hx hA ht
  go_enter Tryd.func26, Tryd.ntmps26
  go_wp2
  go_loopg [3, 5, 11] xss.length (fun gg s3 _ s11 wr => ∃ k m : Nat, k ≤ xss.length ∧ xss.length - k ≤ gg ∧ s11 = .int .i64 k ∧ s3 = .int .i64 m ∧ m ≤ 1000 ∧ w = wr ∧ Aside (m = (flatK xss k).length))
  case atStart => exact ⟨0, 0, by omega, by omega, rfl, rfl, by omega, rfl, (show _ = _ from by simp [flatK])⟩
  case round =>
    obtain ⟨k, m, hk, hg, rfl, rfl, hm, rfl, M⟩ := hrel
    by_cases hlt : k < xss.length
    · have hltz : (k : Int) < (xss.length : Int) := by omega
      obtain ⟨b, o, rfl, hb, hj⟩ := HX.out (by omega)
      have g0 := hj k hlt
      clear hj
      obtain ⟨a5, c5, hv5, _⟩ := (HA.out k hlt).form rfl
      rw [hv5] at g0
      have HM := Lib.hid (show m + (xss.getD k []).length = (flatK xss (k + 1)).length by rw [flatK_succ hlt, List.length_append, M.out])
      have hb1 : m + (xss.getD k []).length ≤ 1000 := by rw [HM.out]; exact Nat.le_trans (flatK_le _) HT.out
      clear hv5 M
      generalize (xss.getD k []).length = n5 at *
      have hneg : ¬ ((m : Int) + (n5 : Int) < 0) := by omega
      go_wp2
      go_roundg (xss.length - (k + 1))
      case measure => omega
      case rel => exact ⟨k + 1, m + n5, by omega, by omega, by go_num, by go_num, hb1, rfl, HM.out⟩
    · have hltz : ¬ (k : Int) < (xss.length : Int) := by omega
      obtain rfl : k = xss.length := by omega
      go_wp2_with fail
      refine (grow_any m _ (by omega)).mono ?_
      rintro e w1 ⟨v6, rfl, O1, b1⟩
      have s1 := b1.size
      have OO := Lib.hid O1
      clear O1 M
      go_wp2_with fail
      go_loopg [6, 8, 27] xss.length (fun gg s6 _ s27 w2 => ∃ k : Nat, k ≤ xss.length ∧ xss.length - k ≤ gg ∧ s27 = .int .i64 k ∧ Aside (w2.ownsRow w.heap.size 25 2 s6 (flatK xss k).length (flatA (flatK xss k))) ∧ Aside (Below w.heap.size w w2))
      case atStart => exact ⟨0, by omega, by omega, rfl, (show World.ownsRow _ _ _ _ _ _ _ from by simpa [flatK] using OO.out), b1⟩
      case round =>
        obtain ⟨k, hk, hg, rfl, O, BW⟩ := hrel
        clear OO b1
        have hs2 := BW.out.size
        by_cases hlt : k < xss.length
        · have hltz : (k : Int) < (xss.length : Int) := by omega
          obtain ⟨b, o, rfl, hb, hj⟩ := HX.out (by omega)
          have g0 := (BW.out.cell (p := ⟨b, o + k, none⟩) hb).trans (hj k hlt)
          clear hj
          have HAK := (HA.out k hlt).below BW.out
          obtain ⟨a5, c5, hv5, _⟩ := HAK.form rfl
          rw [hv5] at g0 HAK
          have HS := Lib.hid (flatK_succ hlt)
          have hb1 : (flatK xss k).length + (xss.getD k []).length ≤ 1000 := by rw [← List.length_append, ← HS.out]; exact Nat.le_trans (flatK_le _) HT.out
          have LT := Lib.hid O.out.lt
          clear hv5
          generalize xss.getD k [] = es at *
          generalize hn5 : es.length = n5 at *
          have HAK2 := Lib.hid HAK
          clear HAK
          go_wp2_with (at_builtin; refine wpList_append_attrs rfl (.tmp 31) (.tmp 32) rfl w.heap.size u6 _ (flatK xss k) rfl O.out w.heap.size (.slice a5 n5 c5) es rfl HAK2.out (by omega) hs2 ?_; intro v3 w3 hown3 hg3)
          have hs3 := hg3.size
          have IN := Lib.hid (show w3.ownsRow w.heap.size 25 2 v3 (flatK xss (k + 1)).length (flatA (flatK xss (k + 1))) by rw [HS.out, List.length_append]; exact hown3)
          have B3 := Lib.hid (BW.out.grown hg3 (by omega) (fun g hg => by have := (LT.out g hg).1; omega))
          clear hown3 hg3
          go_wp2
          go_roundg (xss.length - (k + 1))
          case measure => omega
          case rel => exact ⟨k + 1, by omega, by omega, by go_num, IN.out, B3.out⟩
        · have hltz : ¬ (k : Int) < (xss.length : Int) := by omega
          obtain rfl : k = xss.length := by omega
          go_wp2
          go_ret
          have hO := O.out
          rw [flatK_all] at hO
          exact ⟨_, rfl, ⟨hO, HF.out, by have := HT.out; omega⟩, BW.out⟩

end Go.Proofs.YtfealpehdjeckaaDoor
