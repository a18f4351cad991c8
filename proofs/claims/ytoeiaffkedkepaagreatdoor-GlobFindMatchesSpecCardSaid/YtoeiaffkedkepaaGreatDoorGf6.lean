/- GlobFindMatchesSpec: for every tree and every pattern the law returns true.
   Condition: as each theorem states; this text: GlobRefM, GlobSample, FsRoutes, FsRefUse, FsSort, FsRefPaths. -/
import Derived.Test.YtoeiaffkedkepaaGreatDoorGf5
import Derived.Test.YtoeiaffkedkepaaGreatDoorGf3
import Derived.Test.YtoeiaffkedkepaaGreatDoorGf4
import Derived.Test.YtoeiaffkedkepaaGreatDoorGf2
import Derived.Test.YtoeiaffkedkepaaGreatDoorGf1
import Derived.Lib.SlBytesConst

/- The reference's MatchComponents at every two slices of strings: whether the elements match the components (by backtracking). Conditions: the cells of the slices lie in memory as they read; at most 200 strings of at most 100 bytes each. -/
namespace Go.Proofs.YtoeiaffkedkepaaGreatDoor
open Go.RowKit

/-- A slice of strings as Go makes them. -/
def SSv (w : World) (B : Nat) (v : Value) (xs : List ByteArray) : Prop :=
  (v = .slice none 0 0 ∧ xs = []) ∨ ∃ b o c, v = .slice (some ⟨b, o, none⟩) xs.length c ∧ xs.length ≤ c ∧ c ≤ 9223372036854775807 ∧ b < B ∧ ∀ j, j < xs.length → w.cell? ⟨b, o + j, none⟩ = some (.string (xs.getD j ByteArray.empty))
theorem SSv.below {w w' : World} {B : Nat} {v : Value} {xs : List ByteArray} (h : SSv w B v xs) (hb : Below B w w') : SSv w' B v xs := by
  rcases h with h | ⟨b, o, c, h1, h2, h3, h4, h5⟩
  · exact .inl h
  · exact .inr ⟨b, o, c, h1, h2, h3, h4, fun j hj => (hb.cell (p := ⟨b, o + j, none⟩) h4).trans (h5 j hj)⟩
theorem SSv.more {w : World} {B B' : Nat} {v : Value} {xs : List ByteArray} (h : SSv w B v xs) (hB : B ≤ B') : SSv w B' v xs := by
  rcases h with h | ⟨b, o, c, h1, h2, h3, h4, h5⟩
  · exact .inl h
  · exact .inr ⟨b, o, c, h1, h2, h3, by omega, h5⟩
theorem SSv.form {w : World} {B : Nat} {v : Value} {xs : List ByteArray} (h : SSv w B v xs) : ∃ a c, v = .slice a xs.length c := by
  rcases h with ⟨h, rfl⟩ | ⟨b, o, c, h1, _⟩
  · exact ⟨_, _, h⟩
  · exact ⟨_, _, h1⟩
theorem SSv.at_end {w : World} {B b o : Nat} (hb : b < B) : SSv w B (.slice (some ⟨b, o, none⟩) 0 0) [] := .inr ⟨b, o, 0, rfl, Nat.le_refl _, by omega, hb, fun j hj => absurd hj (Nat.not_lt_zero _)⟩
theorem SSv.on {w : World} {B b o c k : Nat} {xs : List ByteArray} (hk : k ≤ xs.length) (hc : xs.length ≤ c) (hm : c ≤ 9223372036854775807) (hb : b < B) (h : ∀ j, j < xs.length → w.cell? ⟨b, o + j, none⟩ = some (.string (xs.getD j ByteArray.empty))) :
    SSv w B (.slice (some ⟨b, o + k, none⟩) (xs.length - k) (c - k)) (xs.drop k) := by
  refine .inr ⟨b, o + k, c - k, by rw [List.length_drop], by rw [List.length_drop]; omega, by omega, hb, fun j hj => ?_⟩
  rw [List.length_drop] at hj
  have := h (k + j) (by omega)
  rw [show o + k + j = o + (k + j) from by omega, this]
  simp [List.getD_eq_getElem?_getD, List.getElem?_drop]
theorem SSv.of_own {w : World} {base n : Nat} {v : Value} {xs : List ByteArray} (h : w.ownsRow base 9 1 v n (xs.map Value.string)) : SSv w w.heap.size v xs := by
  have hn : xs.length = n := by have := h.1; simpa using this
  subst hn
  rcases h.2 with ⟨rfl, h0⟩ | ⟨g, c, cur, rfl, hb, hg, hn, hm, hs, ht⟩
  · exact .inl ⟨rfl, List.eq_nil_of_length_eq_zero h0⟩
  · refine .inr ⟨g, 0, c, rfl, hn, by unfold maxLen at hm; omega, (h.lt g rfl).2, fun j hj => ?_⟩
    rw [Nat.zero_add, h.cellAt j (by omega), List.getD_eq_getElem?_getD, List.getElem?_map, List.getElem?_eq_getElem hj]
    rfl

def IHc (N : Nat) : Prop := ∀ (v u : Value) (xs ys : List ByteArray) (w : World), xs.length < N → SSv w w.heap.size v xs → SSv w w.heap.size u ys → xs.length ≤ 200 → ys.length ≤ 200 → (∀ x ∈ xs, x.size ≤ 100) → (∀ y ∈ ys, y.size ≤ 100) →
    Calls Tryz.prog 11 #[v, u] w fun e w' => e = .returned (.bool (lmC xs ys)) ∧ ∃ n, w' = w.drewN n

set_option maxRecDepth 100000 in
set_option maxHeartbeats 3200000 in
theorem refComps_star (N : Nat) (IH : IHc N) (x : ByteArray) (es ys : List ByteArray) (b o c : Nat) (u : Value) (w : World) (hN2 : es.length < N) (hc : (x :: es).length ≤ c) (hm : c ≤ 9223372036854775807) (hb : b < w.heap.size) (hcell : ∀ j, j < (x :: es).length → w.cell? ⟨b, o + j, none⟩ = some (.string ((x :: es).getD j ByteArray.empty))) (hU : SSv w w.heap.size u ys) (hxl2 : es.length ≤ 200) (hyl : ys.length ≤ 200) (hx : ∀ y ∈ x :: es, y.size ≤ 100) (hy : ∀ y ∈ ys, y.size ≤ 100) (hst : starC x = true) :
    Calls Tryz.prog 11 #[.slice (some ⟨b, o, none⟩) (x :: es).length c, u] w fun e w' => e = .returned (.bool (lmC (x :: es) ys)) ∧ ∃ n, w' = w.drewN n := by
  have HX := Lib.hid (fun (y : ByteArray) (h : y ∈ es) => hx y (by simp [h]))
  have hxs := hx x (by simp)
  have HY := Lib.hid hy
  have cx := hcell 0 (by simp)
  rw [Nat.add_zero, show (x :: es).getD 0 ByteArray.empty = x from rfl] at cx
  have HCALL := Lib.hid (fun v u ys' W (hq : W.heap = w.heap) (h1 : SSv w w.heap.size v es) (h2 : SSv w w.heap.size u ys') h3 h4 => IH v u es ys' W hN2
    (by rcases h1 with h | ⟨b, o, c, q1, q2, q3, q4, q5⟩
        · exact .inl h
        · exact .inr ⟨b, o, c, q1, q2, q3, by rw [hq]; exact q4, fun j hj => by unfold World.cell?; rw [hq]; exact q5 j hj⟩)
    (by rcases h2 with h | ⟨b, o, c, q1, q2, q3, q4, q5⟩
        · exact .inl h
        · exact .inr ⟨b, o, c, q1, q2, q3, by rw [hq]; exact q4, fun j hj => by unfold World.cell?; rw [hq]; exact q5 j hj⟩)
    hxl2 h3 HX.out h4)
  have hlen : (x :: es).length = es.length + 1 := rfl
  rw [hlen] at hc ⊢
  have hle0 : (((es.length : Int) + 1) == 0) = false := by rw [beq_eq_false_iff_ne]; omega
  have HST := Lib.hid hst
  have hst2 : (x.toList == [42, 42]) = true := hst
  have HL := Lib.hid (show lmC (x :: es) ys = lm starC mat (x :: es) ys from rfl)
  clear hx hst IH
  by_cases hc1 : c = 1
  · subst hc1
    have HES := Lib.hid (show es = [] from List.eq_nil_of_length_eq_zero (by omega))
    have HV1 := Lib.hid (show SSv w w.heap.size (.slice (some ⟨b, o, none⟩) 0 0) es by rw [HES.out]; exact SSv.at_end hb)
    clear hcell hy
    rcases hU with ⟨rfl, hys⟩ | ⟨b2, o2, c2, rfl, hc2, hm2, hb2, hcell2⟩
    · have HYS := Lib.hid hys
      clear hys
      go_enter Tryz.func11, Tryz.ntmps11
      go_wp2
      go_loopg [5] (ys.length + 1) (fun gg s5 wr => ∃ k : Nat, s5 = .int .i64 k ∧ k ≤ ys.length + 1 ∧ ys.length + 1 - k ≤ gg ∧ Aside ((∃ n, wr = w.drewN n) ∧ ∀ j, j < k → lmC es (ys.drop j) = false))
      case atStart => exact ⟨0, rfl, Nat.zero_le _, by omega, (show _ ∧ _ from ⟨⟨0, rfl⟩, fun j hj => absurd hj (Nat.not_lt_zero _)⟩)⟩
      case round =>
        obtain ⟨k, rfl, hk, hg2, A⟩ := hrel
        obtain ⟨⟨n0, rfl⟩, hno⟩ := A.out
        clear A
        have NO := Lib.hid hno
        clear hno
        by_cases hks : k ≤ ys.length
        · have hksz : (k : Int) ≤ (ys.length : Int) := by omega
          obtain rfl : k = 0 := by rw [HYS.out] at hks; simpa using hks
          have c1 := fun W (hq : W.heap = w.heap) => HCALL.out (.slice (some ⟨b, o, none⟩) 0 0) (.slice none 0 0) (ys.drop 0) W hq HV1.out (.inl ⟨rfl, by rw [HYS.out]; rfl⟩) (by rw [HYS.out]; simp) (fun y hy => by rw [HYS.out] at hy; cases hy)
          have c1 := fun n => c1 (w.drewN n) rfl
          cases hb : lmC es (ys.drop 0) with
          | true =>
            rw [hb] at c1
            have C1 := Lib.hid c1
            have HB := Lib.hid hb
            clear c1 hb
            go_wp2
            go_quiet ((go_at_call 11; refine (C1.out _).mono ?_; rintro e _ ⟨rfl, _, rfl⟩; exact ⟨rfl, _, drewN_more _ _ _ _⟩))
            go_wp2
            go_ret
            refine ⟨ret_bool ?_, by first | exact ⟨_, rfl⟩ | exact ⟨_, drewN_one _ _ _⟩⟩
            rw [HL.out, eq_comm]
            exact (lm_star HST.out).2 ⟨0, hks, HB.out⟩
          | false =>
            rw [hb] at c1
            have C1 := Lib.hid c1
            have HB := Lib.hid hb
            clear c1 hb
            go_wp2
            go_quiet ((go_at_call 11; refine (C1.out _).mono ?_; rintro e _ ⟨rfl, _, rfl⟩; exact ⟨rfl, _, drewN_more _ _ _ _⟩))
            go_wp2
            go_roundg (ys.length + 1 - (0 + 1))
            case measure => omega
            case rel =>
              refine ⟨0 + 1, by go_num, by omega, by omega, (show _ ∧ _ from ⟨by first | exact ⟨_, rfl⟩ | exact ⟨_, drewN_one _ _ _⟩, fun j hj => ?_⟩)⟩
              by_cases e : j = 0
              · subst e; exact HB.out
              · exact NO.out j (by omega)
        · have hks2 : ¬ (k : Int) ≤ (ys.length : Int) := by omega
          go_wp2
          go_ret
          refine ⟨ret_bool ?_, _, rfl⟩
          rw [HL.out, eq_comm, Bool.eq_false_iff]
          intro h
          obtain ⟨j, hj, h2⟩ := (lm_star HST.out).1 h
          have h3 := NO.out j (by omega)
          unfold lmC at h3
          rw [h3] at h2; cases h2
    · have HCELL := Lib.hid hcell2
      clear hcell2
      go_enter Tryz.func11, Tryz.ntmps11
      go_wp2
      go_loopg [5] (ys.length + 1) (fun gg s5 wr => ∃ k : Nat, s5 = .int .i64 k ∧ k ≤ ys.length + 1 ∧ ys.length + 1 - k ≤ gg ∧ Aside ((∃ n, wr = w.drewN n) ∧ ∀ j, j < k → lmC es (ys.drop j) = false))
      case atStart => exact ⟨0, rfl, Nat.zero_le _, by omega, (show _ ∧ _ from ⟨⟨0, rfl⟩, fun j hj => absurd hj (Nat.not_lt_zero _)⟩)⟩
      case round =>
        obtain ⟨k, rfl, hk, hg2, A⟩ := hrel
        obtain ⟨⟨n0, rfl⟩, hno⟩ := A.out
        clear A
        have NO := Lib.hid hno
        clear hno
        by_cases hks : k ≤ ys.length
        · have hksz : (k : Int) ≤ (ys.length : Int) := by omega
          have hy2 : ∀ y ∈ ys.drop k, y.size ≤ 100 := fun y hy => HY.out y (List.mem_of_mem_drop hy)
          have hyl2 : (ys.drop k).length ≤ 200 := by rw [List.length_drop]; omega
          by_cases hck : c2 = k
          · subst hck
            have hdrop : ys.drop c2 = [] := List.drop_eq_nil_of_le (by omega)
            have c1 := fun n => HCALL.out (.slice (some ⟨b, o, none⟩) 0 0) (.slice (some ⟨b2, o2, none⟩) 0 0) (ys.drop c2) (w.drewN n) rfl HV1.out (by rw [hdrop]; exact SSv.at_end hb2) hyl2 hy2
            clear hdrop
            cases hb : lmC es (ys.drop c2) with
            | true =>
              rw [hb] at c1
              have C1 := Lib.hid c1
              have HB := Lib.hid hb
              clear c1 hb
              go_wp2
              go_quiet ((go_at_call 11; refine (C1.out _).mono ?_; rintro e _ ⟨rfl, _, rfl⟩; exact ⟨rfl, _, drewN_more _ _ _ _⟩))
              go_wp2
              go_ret
              refine ⟨ret_bool ?_, by first | exact ⟨_, rfl⟩ | exact ⟨_, drewN_one _ _ _⟩⟩
              rw [HL.out, eq_comm]
              exact (lm_star HST.out).2 ⟨c2, hks, HB.out⟩
            | false =>
              rw [hb] at c1
              have C1 := Lib.hid c1
              have HB := Lib.hid hb
              clear c1 hb
              go_wp2
              go_quiet ((go_at_call 11; refine (C1.out _).mono ?_; rintro e _ ⟨rfl, _, rfl⟩; exact ⟨rfl, _, drewN_more _ _ _ _⟩))
              go_wp2
              go_roundg (ys.length + 1 - (c2 + 1))
              case measure => omega
              case rel =>
                refine ⟨c2 + 1, by go_num, by omega, by omega, (show _ ∧ _ from ⟨by first | exact ⟨_, rfl⟩ | exact ⟨_, drewN_one _ _ _⟩, fun j hj => ?_⟩)⟩
                by_cases e : j = c2
                · subst e; exact HB.out
                · exact NO.out j (by omega)
          · have c1 := fun n => HCALL.out (.slice (some ⟨b, o, none⟩) 0 0) (.slice (some ⟨b2, o2 + k, none⟩) (ys.length - k) (c2 - k)) (ys.drop k) (w.drewN n) rfl HV1.out (SSv.on hks hc2 hm2 hb2 HCELL.out) hyl2 hy2
            cases hb : lmC es (ys.drop k) with
            | true =>
              rw [hb] at c1
              have C1 := Lib.hid c1
              have HB := Lib.hid hb
              clear c1 hb
              go_wp2
              go_quiet ((go_at_call 11; refine (C1.out _).mono ?_; rintro e _ ⟨rfl, _, rfl⟩; exact ⟨rfl, _, drewN_more _ _ _ _⟩))
              go_wp2
              go_ret
              refine ⟨ret_bool ?_, by first | exact ⟨_, rfl⟩ | exact ⟨_, drewN_one _ _ _⟩⟩
              rw [HL.out, eq_comm]
              exact (lm_star HST.out).2 ⟨k, hks, HB.out⟩
            | false =>
              rw [hb] at c1
              have C1 := Lib.hid c1
              have HB := Lib.hid hb
              clear c1 hb
              go_wp2
              go_quiet ((go_at_call 11; refine (C1.out _).mono ?_; rintro e _ ⟨rfl, _, rfl⟩; exact ⟨rfl, _, drewN_more _ _ _ _⟩))
              go_wp2
              go_roundg (ys.length + 1 - (k + 1))
              case measure => omega
              case rel =>
                refine ⟨k + 1, by go_num, by omega, by omega, (show _ ∧ _ from ⟨by first | exact ⟨_, rfl⟩ | exact ⟨_, drewN_one _ _ _⟩, fun j hj => ?_⟩)⟩
                by_cases e : j = k
                · subst e; exact HB.out
                · exact NO.out j (by omega)
        · have hks2 : ¬ (k : Int) ≤ (ys.length : Int) := by omega
          go_wp2
          go_ret
          refine ⟨ret_bool ?_, _, rfl⟩
          rw [HL.out, eq_comm, Bool.eq_false_iff]
          intro h
          obtain ⟨j, hj, h2⟩ := (lm_star HST.out).1 h
          have h3 := NO.out j (by omega)
          unfold lmC at h3
          rw [h3] at h2; cases h2
  · have HV1 := Lib.hid (show SSv w w.heap.size (.slice (some ⟨b, o + 1, none⟩) es.length (c - 1)) es by have := SSv.on (k := 1) (xs := x :: es) (by simp) hc hm hb hcell; simpa using this)
    clear hcell hy
    rcases hU with ⟨rfl, hys⟩ | ⟨b2, o2, c2, rfl, hc2, hm2, hb2, hcell2⟩
    · have HYS := Lib.hid hys
      clear hys
      go_enter Tryz.func11, Tryz.ntmps11
      go_wp2
      go_loopg [5] (ys.length + 1) (fun gg s5 wr => ∃ k : Nat, s5 = .int .i64 k ∧ k ≤ ys.length + 1 ∧ ys.length + 1 - k ≤ gg ∧ Aside ((∃ n, wr = w.drewN n) ∧ ∀ j, j < k → lmC es (ys.drop j) = false))
      case atStart => exact ⟨0, rfl, Nat.zero_le _, by omega, (show _ ∧ _ from ⟨⟨0, rfl⟩, fun j hj => absurd hj (Nat.not_lt_zero _)⟩)⟩
      case round =>
        obtain ⟨k, rfl, hk, hg2, A⟩ := hrel
        obtain ⟨⟨n0, rfl⟩, hno⟩ := A.out
        clear A
        have NO := Lib.hid hno
        clear hno
        by_cases hks : k ≤ ys.length
        · have hksz : (k : Int) ≤ (ys.length : Int) := by omega
          obtain rfl : k = 0 := by rw [HYS.out] at hks; simpa using hks
          have c1 := fun W (hq : W.heap = w.heap) => HCALL.out (.slice (some ⟨b, o + 1, none⟩) es.length (c - 1)) (.slice none 0 0) (ys.drop 0) W hq HV1.out (.inl ⟨rfl, by rw [HYS.out]; rfl⟩) (by rw [HYS.out]; simp) (fun y hy => by rw [HYS.out] at hy; cases hy)
          have c1 := fun n => c1 (w.drewN n) rfl
          cases hb : lmC es (ys.drop 0) with
          | true =>
            rw [hb] at c1
            have C1 := Lib.hid c1
            have HB := Lib.hid hb
            clear c1 hb
            go_wp2
            go_quiet ((go_at_call 11; refine (C1.out _).mono ?_; rintro e _ ⟨rfl, _, rfl⟩; exact ⟨rfl, _, drewN_more _ _ _ _⟩))
            go_wp2
            go_ret
            refine ⟨ret_bool ?_, by first | exact ⟨_, rfl⟩ | exact ⟨_, drewN_one _ _ _⟩⟩
            rw [HL.out, eq_comm]
            exact (lm_star HST.out).2 ⟨0, hks, HB.out⟩
          | false =>
            rw [hb] at c1
            have C1 := Lib.hid c1
            have HB := Lib.hid hb
            clear c1 hb
            go_wp2
            go_quiet ((go_at_call 11; refine (C1.out _).mono ?_; rintro e _ ⟨rfl, _, rfl⟩; exact ⟨rfl, _, drewN_more _ _ _ _⟩))
            go_wp2
            go_roundg (ys.length + 1 - (0 + 1))
            case measure => omega
            case rel =>
              refine ⟨0 + 1, by go_num, by omega, by omega, (show _ ∧ _ from ⟨by first | exact ⟨_, rfl⟩ | exact ⟨_, drewN_one _ _ _⟩, fun j hj => ?_⟩)⟩
              by_cases e : j = 0
              · subst e; exact HB.out
              · exact NO.out j (by omega)
        · have hks2 : ¬ (k : Int) ≤ (ys.length : Int) := by omega
          go_wp2
          go_ret
          refine ⟨ret_bool ?_, _, rfl⟩
          rw [HL.out, eq_comm, Bool.eq_false_iff]
          intro h
          obtain ⟨j, hj, h2⟩ := (lm_star HST.out).1 h
          have h3 := NO.out j (by omega)
          unfold lmC at h3
          rw [h3] at h2; cases h2
    · have HCELL := Lib.hid hcell2
      clear hcell2
      go_enter Tryz.func11, Tryz.ntmps11
      go_wp2
      go_loopg [5] (ys.length + 1) (fun gg s5 wr => ∃ k : Nat, s5 = .int .i64 k ∧ k ≤ ys.length + 1 ∧ ys.length + 1 - k ≤ gg ∧ Aside ((∃ n, wr = w.drewN n) ∧ ∀ j, j < k → lmC es (ys.drop j) = false))
      case atStart => exact ⟨0, rfl, Nat.zero_le _, by omega, (show _ ∧ _ from ⟨⟨0, rfl⟩, fun j hj => absurd hj (Nat.not_lt_zero _)⟩)⟩
      case round =>
        obtain ⟨k, rfl, hk, hg2, A⟩ := hrel
        obtain ⟨⟨n0, rfl⟩, hno⟩ := A.out
        clear A
        have NO := Lib.hid hno
        clear hno
        by_cases hks : k ≤ ys.length
        · have hksz : (k : Int) ≤ (ys.length : Int) := by omega
          have hy2 : ∀ y ∈ ys.drop k, y.size ≤ 100 := fun y hy => HY.out y (List.mem_of_mem_drop hy)
          have hyl2 : (ys.drop k).length ≤ 200 := by rw [List.length_drop]; omega
          by_cases hck : c2 = k
          · subst hck
            have hdrop : ys.drop c2 = [] := List.drop_eq_nil_of_le (by omega)
            have c1 := fun n => HCALL.out (.slice (some ⟨b, o + 1, none⟩) es.length (c - 1)) (.slice (some ⟨b2, o2, none⟩) 0 0) (ys.drop c2) (w.drewN n) rfl HV1.out (by rw [hdrop]; exact SSv.at_end hb2) hyl2 hy2
            clear hdrop
            cases hb : lmC es (ys.drop c2) with
            | true =>
              rw [hb] at c1
              have C1 := Lib.hid c1
              have HB := Lib.hid hb
              clear c1 hb
              go_wp2
              go_quiet ((go_at_call 11; refine (C1.out _).mono ?_; rintro e _ ⟨rfl, _, rfl⟩; exact ⟨rfl, _, drewN_more _ _ _ _⟩))
              go_wp2
              go_ret
              refine ⟨ret_bool ?_, by first | exact ⟨_, rfl⟩ | exact ⟨_, drewN_one _ _ _⟩⟩
              rw [HL.out, eq_comm]
              exact (lm_star HST.out).2 ⟨c2, hks, HB.out⟩
            | false =>
              rw [hb] at c1
              have C1 := Lib.hid c1
              have HB := Lib.hid hb
              clear c1 hb
              go_wp2
              go_quiet ((go_at_call 11; refine (C1.out _).mono ?_; rintro e _ ⟨rfl, _, rfl⟩; exact ⟨rfl, _, drewN_more _ _ _ _⟩))
              go_wp2
              go_roundg (ys.length + 1 - (c2 + 1))
              case measure => omega
              case rel =>
                refine ⟨c2 + 1, by go_num, by omega, by omega, (show _ ∧ _ from ⟨by first | exact ⟨_, rfl⟩ | exact ⟨_, drewN_one _ _ _⟩, fun j hj => ?_⟩)⟩
                by_cases e : j = c2
                · subst e; exact HB.out
                · exact NO.out j (by omega)
          · have c1 := fun n => HCALL.out (.slice (some ⟨b, o + 1, none⟩) es.length (c - 1)) (.slice (some ⟨b2, o2 + k, none⟩) (ys.length - k) (c2 - k)) (ys.drop k) (w.drewN n) rfl HV1.out (SSv.on hks hc2 hm2 hb2 HCELL.out) hyl2 hy2
            cases hb : lmC es (ys.drop k) with
            | true =>
              rw [hb] at c1
              have C1 := Lib.hid c1
              have HB := Lib.hid hb
              clear c1 hb
              go_wp2
              go_quiet ((go_at_call 11; refine (C1.out _).mono ?_; rintro e _ ⟨rfl, _, rfl⟩; exact ⟨rfl, _, drewN_more _ _ _ _⟩))
              go_wp2
              go_ret
              refine ⟨ret_bool ?_, by first | exact ⟨_, rfl⟩ | exact ⟨_, drewN_one _ _ _⟩⟩
              rw [HL.out, eq_comm]
              exact (lm_star HST.out).2 ⟨k, hks, HB.out⟩
            | false =>
              rw [hb] at c1
              have C1 := Lib.hid c1
              have HB := Lib.hid hb
              clear c1 hb
              go_wp2
              go_quiet ((go_at_call 11; refine (C1.out _).mono ?_; rintro e _ ⟨rfl, _, rfl⟩; exact ⟨rfl, _, drewN_more _ _ _ _⟩))
              go_wp2
              go_roundg (ys.length + 1 - (k + 1))
              case measure => omega
              case rel =>
                refine ⟨k + 1, by go_num, by omega, by omega, (show _ ∧ _ from ⟨by first | exact ⟨_, rfl⟩ | exact ⟨_, drewN_one _ _ _⟩, fun j hj => ?_⟩)⟩
                by_cases e : j = k
                · subst e; exact HB.out
                · exact NO.out j (by omega)
        · have hks2 : ¬ (k : Int) ≤ (ys.length : Int) := by omega
          go_wp2
          go_ret
          refine ⟨ret_bool ?_, _, rfl⟩
          rw [HL.out, eq_comm, Bool.eq_false_iff]
          intro h
          obtain ⟨j, hj, h2⟩ := (lm_star HST.out).1 h
          have h3 := NO.out j (by omega)
          unfold lmC at h3
          rw [h3] at h2; cases h2

set_option maxRecDepth 100000 in
set_option maxHeartbeats 3200000 in
theorem refComps_plain (N : Nat) (IH : IHc N) (x : ByteArray) (es ys : List ByteArray) (b o c : Nat) (u : Value) (w : World) (hN2 : es.length < N) (hc : (x :: es).length ≤ c) (hm : c ≤ 9223372036854775807) (hb : b < w.heap.size) (hcell : ∀ j, j < (x :: es).length → w.cell? ⟨b, o + j, none⟩ = some (.string ((x :: es).getD j ByteArray.empty))) (hU : SSv w w.heap.size u ys) (hxl2 : es.length ≤ 200) (hyl : ys.length ≤ 200) (hx : ∀ y ∈ x :: es, y.size ≤ 100) (hy : ∀ y ∈ ys, y.size ≤ 100) (hst : starC x = false) :
    Calls Tryz.prog 11 #[.slice (some ⟨b, o, none⟩) (x :: es).length c, u] w fun e w' => e = .returned (.bool (lmC (x :: es) ys)) ∧ ∃ n, w' = w.drewN n := by
  have HX := Lib.hid (fun (y : ByteArray) (h : y ∈ es) => hx y (by simp [h]))
  have hxs := hx x (by simp)
  have HY := Lib.hid hy
  have cx := hcell 0 (by simp)
  rw [Nat.add_zero, show (x :: es).getD 0 ByteArray.empty = x from rfl] at cx
  have HCALL := Lib.hid (fun v u ys' W (hq : W.heap = w.heap) (h1 : SSv w w.heap.size v es) (h2 : SSv w w.heap.size u ys') h3 h4 => IH v u es ys' W hN2
    (by rcases h1 with h | ⟨b, o, c, q1, q2, q3, q4, q5⟩
        · exact .inl h
        · exact .inr ⟨b, o, c, q1, q2, q3, by rw [hq]; exact q4, fun j hj => by unfold World.cell?; rw [hq]; exact q5 j hj⟩)
    (by rcases h2 with h | ⟨b, o, c, q1, q2, q3, q4, q5⟩
        · exact .inl h
        · exact .inr ⟨b, o, c, q1, q2, q3, by rw [hq]; exact q4, fun j hj => by unfold World.cell?; rw [hq]; exact q5 j hj⟩)
    hxl2 h3 HX.out h4)
  have hlen : (x :: es).length = es.length + 1 := rfl
  rw [hlen] at hc ⊢
  have hle0 : (((es.length : Int) + 1) == 0) = false := by rw [beq_eq_false_iff_ne]; omega
  have HST := Lib.hid hst
  have hst2 : (x.toList == [42, 42]) = false := hst
  have HL := Lib.hid (show lmC (x :: es) ys = lm starC mat (x :: es) ys from rfl)
  clear hx hst IH
  by_cases hc1 : c = 1
  · subst hc1
    have HES := Lib.hid (show es = [] from List.eq_nil_of_length_eq_zero (by omega))
    have HV1 := Lib.hid (show SSv w w.heap.size (.slice (some ⟨b, o, none⟩) 0 0) es by rw [HES.out]; exact SSv.at_end hb)
    clear hcell hy
    rcases hU with ⟨rfl, hys⟩ | ⟨b2, o2, c2, rfl, hc2, hm2, hb2, hcell2⟩
    · have HF := Lib.hid (show lmC (x :: es) ys = false by unfold lmC; rw [hys]; exact lm_none HST.out)
      have hl0 : ys.length = 0 := by rw [hys]; rfl
      clear hys
      go_enter Tryz.func11, Tryz.ntmps11
      go_wp2
      go_quiet (fail)
      go_wp2
      go_ret
      exact ⟨ret_bool HF.out.symm, _, rfl⟩
    · cases ys with
      | nil =>
        have HF := Lib.hid (show lmC (x :: es) [] = false from lm_none HST.out)
        go_enter Tryz.func11, Tryz.ntmps11
        go_wp2
        go_quiet (fail)
        go_wp2
        go_ret
        exact ⟨ret_bool HF.out.symm, _, rfl⟩
      | cons y zs =>
        have cy := hcell2 0 (by simp)
        rw [Nat.add_zero, show (y :: zs).getD 0 ByteArray.empty = y from rfl] at cy
        have CM0 := Lib.hid (fun n => refMatch_any (x.size + 1) x y (w.drewN n) (by omega) (by omega) (by have := HY.out y (by simp); omega))
        have hlen2 : (y :: zs).length = zs.length + 1 := rfl
        rw [hlen2] at hc2 hyl
        have hsz : (0 : Int) < ((zs.length : Int) + 1) := by omega
        by_cases hck : c2 = 1
        · subst hck
          have HZS := Lib.hid (show zs = [] from List.eq_nil_of_length_eq_zero (by omega))
          have CS := Lib.hid (fun n => HCALL.out (.slice (some ⟨b, o, none⟩) 0 0) (.slice (some ⟨b2, o2, none⟩) 0 0) zs (w.drewN n) rfl HV1.out (by rw [HZS.out]; exact SSv.at_end hb2) (by omega) (fun y' hy => HY.out y' (by simp [hy])))
          cases hm : mat x y with
          | true =>
            have cm := CM0.out
            rw [hm] at cm
            have CM := Lib.hid cm
            have HF := Lib.hid (show lmC (x :: es) (y :: zs) = lmC es zs by unfold lmC; rw [lm_one HST.out, hm, Bool.true_and])
            clear cm hm
            go_enter Tryz.func11, Tryz.ntmps11
            go_wp2
            go_quiet ((first | (go_at_call 26; refine (CM.out _).mono ?_; rintro e _ ⟨rfl, _, rfl⟩; exact ⟨rfl, _, drewN_one _ _ _⟩) | (go_at_call 11; refine (CS.out _).mono ?_; rintro e _ ⟨rfl, _, rfl⟩; exact ⟨rfl, _, drewN_one _ _ _⟩) | fail))
            go_wp2
            go_ret
            exact ⟨ret_bool (by rw [HF.out]), _, rfl⟩
          | false =>
            have cm := CM0.out
            rw [hm] at cm
            have CM := Lib.hid cm
            have HF := Lib.hid (show lmC (x :: es) (y :: zs) = false by unfold lmC; rw [lm_one HST.out, hm, Bool.false_and])
            clear cm hm
            go_enter Tryz.func11, Tryz.ntmps11
            go_wp2
            go_quiet ((first | (go_at_call 26; refine (CM.out _).mono ?_; rintro e _ ⟨rfl, _, rfl⟩; exact ⟨rfl, _, drewN_one _ _ _⟩) | (go_at_call 11; refine (CS.out _).mono ?_; rintro e _ ⟨rfl, _, rfl⟩; exact ⟨rfl, _, drewN_one _ _ _⟩) | fail))
            go_wp2
            go_ret
            exact ⟨ret_bool (by rw [HF.out]), _, rfl⟩
        · have HU1 := Lib.hid (show SSv w w.heap.size (.slice (some ⟨b2, o2 + 1, none⟩) zs.length (c2 - 1)) zs by have := SSv.on (k := 1) (xs := y :: zs) (by simp) hc2 hm2 hb2 hcell2; simpa using this)
          have CS := Lib.hid (fun n => HCALL.out (.slice (some ⟨b, o, none⟩) 0 0) (.slice (some ⟨b2, o2 + 1, none⟩) zs.length (c2 - 1)) zs (w.drewN n) rfl HV1.out HU1.out (by omega) (fun y' hy => HY.out y' (by simp [hy])))
          cases hm : mat x y with
          | true =>
            have cm := CM0.out
            rw [hm] at cm
            have CM := Lib.hid cm
            have HF := Lib.hid (show lmC (x :: es) (y :: zs) = lmC es zs by unfold lmC; rw [lm_one HST.out, hm, Bool.true_and])
            clear cm hm
            go_enter Tryz.func11, Tryz.ntmps11
            go_wp2
            go_quiet ((first | (go_at_call 26; refine (CM.out _).mono ?_; rintro e _ ⟨rfl, _, rfl⟩; exact ⟨rfl, _, drewN_one _ _ _⟩) | (go_at_call 11; refine (CS.out _).mono ?_; rintro e _ ⟨rfl, _, rfl⟩; exact ⟨rfl, _, drewN_one _ _ _⟩) | fail))
            go_wp2
            go_ret
            exact ⟨ret_bool (by rw [HF.out]), _, rfl⟩
          | false =>
            have cm := CM0.out
            rw [hm] at cm
            have CM := Lib.hid cm
            have HF := Lib.hid (show lmC (x :: es) (y :: zs) = false by unfold lmC; rw [lm_one HST.out, hm, Bool.false_and])
            clear cm hm
            go_enter Tryz.func11, Tryz.ntmps11
            go_wp2
            go_quiet ((first | (go_at_call 26; refine (CM.out _).mono ?_; rintro e _ ⟨rfl, _, rfl⟩; exact ⟨rfl, _, drewN_one _ _ _⟩) | (go_at_call 11; refine (CS.out _).mono ?_; rintro e _ ⟨rfl, _, rfl⟩; exact ⟨rfl, _, drewN_one _ _ _⟩) | fail))
            go_wp2
            go_ret
            exact ⟨ret_bool (by rw [HF.out]), _, rfl⟩
  · have HV1 := Lib.hid (show SSv w w.heap.size (.slice (some ⟨b, o + 1, none⟩) es.length (c - 1)) es by have := SSv.on (k := 1) (xs := x :: es) (by simp) hc hm hb hcell; simpa using this)
    clear hcell hy
    rcases hU with ⟨rfl, hys⟩ | ⟨b2, o2, c2, rfl, hc2, hm2, hb2, hcell2⟩
    · have HF := Lib.hid (show lmC (x :: es) ys = false by unfold lmC; rw [hys]; exact lm_none HST.out)
      have hl0 : ys.length = 0 := by rw [hys]; rfl
      clear hys
      go_enter Tryz.func11, Tryz.ntmps11
      go_wp2
      go_quiet (fail)
      go_wp2
      go_ret
      exact ⟨ret_bool HF.out.symm, _, rfl⟩
    · cases ys with
      | nil =>
        have HF := Lib.hid (show lmC (x :: es) [] = false from lm_none HST.out)
        go_enter Tryz.func11, Tryz.ntmps11
        go_wp2
        go_quiet (fail)
        go_wp2
        go_ret
        exact ⟨ret_bool HF.out.symm, _, rfl⟩
      | cons y zs =>
        have cy := hcell2 0 (by simp)
        rw [Nat.add_zero, show (y :: zs).getD 0 ByteArray.empty = y from rfl] at cy
        have CM0 := Lib.hid (fun n => refMatch_any (x.size + 1) x y (w.drewN n) (by omega) (by omega) (by have := HY.out y (by simp); omega))
        have hlen2 : (y :: zs).length = zs.length + 1 := rfl
        rw [hlen2] at hc2 hyl
        have hsz : (0 : Int) < ((zs.length : Int) + 1) := by omega
        by_cases hck : c2 = 1
        · subst hck
          have HZS := Lib.hid (show zs = [] from List.eq_nil_of_length_eq_zero (by omega))
          have CS := Lib.hid (fun n => HCALL.out (.slice (some ⟨b, o + 1, none⟩) es.length (c - 1)) (.slice (some ⟨b2, o2, none⟩) 0 0) zs (w.drewN n) rfl HV1.out (by rw [HZS.out]; exact SSv.at_end hb2) (by omega) (fun y' hy => HY.out y' (by simp [hy])))
          cases hm : mat x y with
          | true =>
            have cm := CM0.out
            rw [hm] at cm
            have CM := Lib.hid cm
            have HF := Lib.hid (show lmC (x :: es) (y :: zs) = lmC es zs by unfold lmC; rw [lm_one HST.out, hm, Bool.true_and])
            clear cm hm
            go_enter Tryz.func11, Tryz.ntmps11
            go_wp2
            go_quiet ((first | (go_at_call 26; refine (CM.out _).mono ?_; rintro e _ ⟨rfl, _, rfl⟩; exact ⟨rfl, _, drewN_one _ _ _⟩) | (go_at_call 11; refine (CS.out _).mono ?_; rintro e _ ⟨rfl, _, rfl⟩; exact ⟨rfl, _, drewN_one _ _ _⟩) | fail))
            go_wp2
            go_ret
            exact ⟨ret_bool (by rw [HF.out]), _, rfl⟩
          | false =>
            have cm := CM0.out
            rw [hm] at cm
            have CM := Lib.hid cm
            have HF := Lib.hid (show lmC (x :: es) (y :: zs) = false by unfold lmC; rw [lm_one HST.out, hm, Bool.false_and])
            clear cm hm
            go_enter Tryz.func11, Tryz.ntmps11
            go_wp2
            go_quiet ((first | (go_at_call 26; refine (CM.out _).mono ?_; rintro e _ ⟨rfl, _, rfl⟩; exact ⟨rfl, _, drewN_one _ _ _⟩) | (go_at_call 11; refine (CS.out _).mono ?_; rintro e _ ⟨rfl, _, rfl⟩; exact ⟨rfl, _, drewN_one _ _ _⟩) | fail))
            go_wp2
            go_ret
            exact ⟨ret_bool (by rw [HF.out]), _, rfl⟩
        · have HU1 := Lib.hid (show SSv w w.heap.size (.slice (some ⟨b2, o2 + 1, none⟩) zs.length (c2 - 1)) zs by have := SSv.on (k := 1) (xs := y :: zs) (by simp) hc2 hm2 hb2 hcell2; simpa using this)
          have CS := Lib.hid (fun n => HCALL.out (.slice (some ⟨b, o + 1, none⟩) es.length (c - 1)) (.slice (some ⟨b2, o2 + 1, none⟩) zs.length (c2 - 1)) zs (w.drewN n) rfl HV1.out HU1.out (by omega) (fun y' hy => HY.out y' (by simp [hy])))
          cases hm : mat x y with
          | true =>
            have cm := CM0.out
            rw [hm] at cm
            have CM := Lib.hid cm
            have HF := Lib.hid (show lmC (x :: es) (y :: zs) = lmC es zs by unfold lmC; rw [lm_one HST.out, hm, Bool.true_and])
            clear cm hm
            go_enter Tryz.func11, Tryz.ntmps11
            go_wp2
            go_quiet ((first | (go_at_call 26; refine (CM.out _).mono ?_; rintro e _ ⟨rfl, _, rfl⟩; exact ⟨rfl, _, drewN_one _ _ _⟩) | (go_at_call 11; refine (CS.out _).mono ?_; rintro e _ ⟨rfl, _, rfl⟩; exact ⟨rfl, _, drewN_one _ _ _⟩) | fail))
            go_wp2
            go_ret
            exact ⟨ret_bool (by rw [HF.out]), _, rfl⟩
          | false =>
            have cm := CM0.out
            rw [hm] at cm
            have CM := Lib.hid cm
            have HF := Lib.hid (show lmC (x :: es) (y :: zs) = false by unfold lmC; rw [lm_one HST.out, hm, Bool.false_and])
            clear cm hm
            go_enter Tryz.func11, Tryz.ntmps11
            go_wp2
            go_quiet ((first | (go_at_call 26; refine (CM.out _).mono ?_; rintro e _ ⟨rfl, _, rfl⟩; exact ⟨rfl, _, drewN_one _ _ _⟩) | (go_at_call 11; refine (CS.out _).mono ?_; rintro e _ ⟨rfl, _, rfl⟩; exact ⟨rfl, _, drewN_one _ _ _⟩) | fail))
            go_wp2
            go_ret
            exact ⟨ret_bool (by rw [HF.out]), _, rfl⟩

theorem refComps_all : ∀ N, IHc N := by
  intro N
  induction N with
  | zero => intro v u xs ys w hN; exact absurd hN (Nat.not_lt_zero _)
  | succ N ih =>
    intro v u xs ys w hN hV hU hxl hyl hx hy
    cases xs with
    | nil =>
      obtain ⟨va, vc, rfl⟩ := hV.form
      obtain ⟨ua, uc, rfl⟩ := hU.form
      have HL := Lib.hid (show lmC [] ys = ys.isEmpty from rfl)
      cases ys with
      | nil =>
        go_enter Tryz.func11, Tryz.ntmps11
        go_wp2
        go_ret
        exact ⟨ret_bool HL.out.symm, 0, rfl⟩
      | cons y zs =>
        have hl : (((y :: zs).length : Int) == 0) = false := by rw [beq_eq_false_iff_ne]; simp; omega
        go_enter Tryz.func11, Tryz.ntmps11
        go_wp2
        go_ret
        exact ⟨ret_bool (by rw [HL.out]; simp; omega), 0, rfl⟩
    | cons x es =>
      rcases hV with ⟨_, h0⟩ | ⟨b, o, c, rfl, hc, hm, hb, hcell⟩
      · cases h0
      cases hst : starC x with
      | true => exact refComps_star N ih x es ys b o c u w (by simp at hN; omega) hc hm hb hcell hU (by simp at hxl; omega) hyl hx hy hst
      | false => exact refComps_plain N ih x es ys b o c u w (by simp at hN; omega) hc hm hb hcell hU (by simp at hxl; omega) hyl hx hy hst
theorem refComps_any (v u : Value) (xs ys : List ByteArray) (w : World) (hV : SSv w w.heap.size v xs) (hU : SSv w w.heap.size u ys) (hxl : xs.length ≤ 200) (hyl : ys.length ≤ 200) (hx : ∀ x ∈ xs, x.size ≤ 100) (hy : ∀ y ∈ ys, y.size ≤ 100) :
    Calls Tryz.prog 11 #[v, u] w fun e w' => e = .returned (.bool (lmC xs ys)) ∧ ∃ n, w' = w.drewN n :=
  refComps_all (xs.length + 1) v u xs ys w (by omega) hV hU hxl hyl hx hy

end Go.Proofs.YtoeiaffkedkepaaGreatDoor

/- The law's sample tree: its cells, its fault, its paths. No condition. -/
namespace Go.Proofs.YtoeiaffkedkepaaGreatDoor
open Go.RowKit

def bsA : ByteArray := ⟨#[97]⟩
def bsF : ByteArray := ⟨#[102]⟩
/-- A directory, a directory in it, a file of three bytes in that. -/
def sampleT : Tr := [⟨1, 0, [⟨bsA, 1⟩], 0, [], [], 0, 0⟩, ⟨1, 0, [⟨bsF, 2⟩], 0, [], [], 0, 0⟩, ⟨2, 0, [], 3, [], [], 0, 0⟩]
theorem valT_sample : valT sampleT = (0, 0) := by decide +kernel
theorem visits_sample : visits sampleT 0 = [([], 0), ([bsA], 1), ([bsA, bsF], 2)] := rfl
def pat : ByteArray := ⟨#[47, 42, 47, 102]⟩
def pAF : ByteArray := ⟨#[47, 97, 47, 102]⟩
theorem paths_sample : pathsW (fun _ => true) (visits sampleT 0) = [⟨#[47]⟩, ⟨#[47, 97]⟩, ⟨#[47, 97, 47, 102]⟩] := rfl

theorem DEs.one {w : World} {B b : Nat} {x : ByteArray} {i : Int} (hb : b < B) (h0 : w.cell? ⟨b, 0, none⟩ = some (.string x)) (h1 : w.cell? ⟨b, 1, none⟩ = some (.int .i64 i)) (hx : x.size ≤ maxLen) (hi : i64 i) : DEs w B (.slice (some ⟨b, 0, none⟩) 1 1) [⟨x, i⟩] := by
  refine ⟨_, 1, rfl, Nat.le_refl _, by simp, fun e he => ?_, fun _ => ⟨b, 0, rfl, hb, fun j hj => ?_⟩⟩
  · rw [List.mem_singleton] at he; subst he; exact ⟨hx, hi⟩
  · obtain rfl : j = 0 := by simp at hj; omega
    exact ⟨h0, h1⟩

theorem new_cell {w : World} {cs : Array Value} {t : TypeId} {r : Nat × Nat} {n j : Nat} {v : Value} (hn : n = w.heap.size) (h : cs[j]? = some v) : (w.alloc (.cells cs t r)).cell? ⟨n, j, none⟩ = some v := by
  subst hn; rw [cell_of_row _ _ _ _ t r (heap_alloc_new w _)]; exact h
set_option maxRecDepth 100000 in
set_option maxHeartbeats 1600000 in
theorem sample_any (w : World) :
    Calls Tryz.prog 8 #[] w fun e w' => ∃ b, e = .returned (.agg #[.slice (some ⟨b, 0, none⟩) sampleT.length 3]) ∧ Nods w' w'.heap.size (some ⟨b, 0, none⟩) 3 sampleT ∧ Below w.heap.size w w' := by
  have hcv : (convert 46 46 (.slice (some ⟨w.heap.size + 1 + 1 + 1, 0, none⟩) 3 3)).run Tryz.prog ((((w.alloc (.cells #[.slice none 0 0] 24)).alloc (.cells #[.string ⟨#[97]⟩, .int .i64 1] 58)).alloc (.cells #[.string ⟨#[102]⟩, .int .i64 2] 58)).alloc (.cells #[.int .u8 120, .int .u8 121, .int .u8 122] 5)) = .ok (.slice (some ⟨w.heap.size + 1 + 1 + 1, 0, none⟩) 3 3) ((((w.alloc (.cells #[.slice none 0 0] 24)).alloc (.cells #[.string ⟨#[97]⟩, .int .i64 1] 58)).alloc (.cells #[.string ⟨#[102]⟩, .int .i64 2] 58)).alloc (.cells #[.int .u8 120, .int .u8 121, .int .u8 122] 5 (3, 4))) := by
    have := Lib.run_convert_bytes_const (P := Tryz.prog) (((w.alloc (.cells #[.slice none 0 0] 24)).alloc (.cells #[.string ⟨#[97]⟩, .int .i64 1] 58)).alloc (.cells #[.string ⟨#[102]⟩, .int .i64 2] 58)) 46 5 #[.int .u8 120, .int .u8 121, .int .u8 122] 3 3 Tryz.underlying46 Tryz.underlying5
    rw [show (((w.alloc (.cells #[.slice none 0 0] 24)).alloc (.cells #[.string ⟨#[97]⟩, .int .i64 1] 58)).alloc (.cells #[.string ⟨#[102]⟩, .int .i64 2] 58)).heap.size = w.heap.size + 1 + 1 + 1 from by simp] at this
    exact this
  go_enter Tryz.func8, Tryz.ntmps8
  go_wp2
  refine bodyPost_ret (v := .agg #[.slice (some ⟨w.heap.size + 1 + 1 + 1 + 1, 0, none⟩) 3 3]) (by simp [results, Tryz.results8, go_sem]) rfl ⟨_, rfl, ⟨by decide, by decide, fun _ => ⟨_, 0, rfl, by simp, fun j hj => ?_⟩⟩, by repeat (first | exact Below.refl _ _ | refine Below.setCell ?_ (by first | omega | (simp; done) | (simp; omega)) _ | refine Below.alloc ?_ (by first | omega | (simp; done) | (simp; omega)) _)⟩
  have hj3 : j < 3 := hj
  match j, hj3 with
  | 0, _ =>
    exact ⟨.slice (some ⟨w.heap.size + 1, 0, none⟩) 1 1, .slice none 0 0, .slice none 0 0, .slice none 0 0, ⟨new_cell (by simp) rfl, new_cell (by simp) rfl, new_cell (by simp) rfl, new_cell (by simp) rfl, new_cell (by simp) rfl, new_cell (by simp) rfl, new_cell (by simp) rfl, new_cell (by simp) rfl⟩, ⟨DEs.one (by first | (simp; done) | (simp; omega)) (cell_al (cell_al (cell_al (new_cell (by simp) rfl) _) _) _) (cell_al (cell_al (cell_al (new_cell (by simp) rfl) _) _) _) (by decide) (by unfold i64; decide), ⟨none, 0, rfl, by simp [nod, sampleT]⟩, by simp [nod, sampleT], Acls.none_ _ _, Ats.none_ _ _, by unfold i64; decide, by unfold i64; decide, by unfold i64; decide, by unfold i64; decide⟩⟩
  | 1, _ =>
    exact ⟨.slice (some ⟨w.heap.size + 1 + 1, 0, none⟩) 1 1, .slice none 0 0, .slice none 0 0, .slice none 0 0, ⟨new_cell (by simp) rfl, new_cell (by simp) rfl, new_cell (by simp) rfl, new_cell (by simp) rfl, new_cell (by simp) rfl, new_cell (by simp) rfl, new_cell (by simp) rfl, new_cell (by simp) rfl⟩, ⟨DEs.one (by first | (simp; done) | (simp; omega)) (cell_al (cell_al (new_cell (by simp) rfl) _) _) (cell_al (cell_al (new_cell (by simp) rfl) _) _) (by decide) (by unfold i64; decide), ⟨none, 0, rfl, by simp [nod, sampleT]⟩, by simp [nod, sampleT], Acls.none_ _ _, Ats.none_ _ _, by unfold i64; decide, by unfold i64; decide, by unfold i64; decide, by unfold i64; decide⟩⟩
  | 2, _ =>
    exact ⟨.slice none 0 0, .slice (some ⟨w.heap.size + 1 + 1 + 1, 0, none⟩) 3 3, .slice none 0 0, .slice none 0 0, ⟨new_cell (by simp) rfl, new_cell (by simp) rfl, new_cell (by simp) rfl, new_cell (by simp) rfl, new_cell (by simp) rfl, new_cell (by simp) rfl, new_cell (by simp) rfl, new_cell (by simp) rfl⟩, ⟨DEs.none_ _ _, ⟨_, 3, rfl, by simp [nod, sampleT]⟩, by simp [nod, sampleT], Acls.none_ _ _, Ats.none_ _ _, by unfold i64; decide, by unfold i64; decide, by unfold i64; decide, by unfold i64; decide⟩⟩

end Go.Proofs.YtoeiaffkedkepaaGreatDoor

/- The reference's Routes: the places below an inode in breadth-first order, as a row. Conditions: the tree's inodes are valid by themselves, all walks from the start end; its cells lie in memory as they read. -/
namespace Go.Proofs.YtoeiaffkedkepaaGreatDoor
open Go.RowKit

/-- The children of a visit, the first k of them. -/
def someNext (t : Tr) (p : Vis) (k : Nat) : List Vis := ((kids t p.2).take k).map fun e => (p.1 ++ [e.n], e.i.toNat)
theorem someNext_zero (t : Tr) (p : Vis) : someNext t p 0 = [] := by unfold someNext; simp
theorem someNext_succ {t : Tr} {p : Vis} {k : Nat} (h : k < (kids t p.2).length) : someNext t p (k + 1) = someNext t p k ++ [(p.1 ++ [((kids t p.2).getD k D0).n], ((kids t p.2).getD k D0).i.toNat)] := by
  unfold someNext
  rw [List.take_succ_eq_append_getElem h, deD h, List.map_append]
  rfl
theorem someNext_all (t : Tr) (p : Vis) : someNext t p (kids t p.2).length = next t p := by
  unfold someNext next; rw [List.take_length]
theorem someNext_len (t : Tr) (p : Vis) (k : Nat) : (someNext t p k).length ≤ k := by unfold someNext; simp; omega
/-- Block n holds a route. -/
structure RBox (w : World) (n : Nat) (p : Vis) : Prop where
  lt : n < w.heap.size
  c0 : w.cell? ⟨n, 0, none⟩ = some (.string (bP p.1))
  c1 : w.cell? ⟨n, 1, none⟩ = some (.int .i64 (p.1.length : Nat))
  c2 : w.cell? ⟨n, 2, none⟩ = some (.int .i64 (p.2 : Nat))
theorem RBox.of_block {w w' : World} {n : Nat} {p : Vis} (h : RBox w n p) (hs : w.heap.size ≤ w'.heap.size) (hb : w'.heap[n]? = w.heap[n]?) : RBox w' n p :=
  ⟨Nat.lt_of_lt_of_le h.lt hs, (World.cell?_of_block (a := ⟨n, 0, none⟩) hb).trans h.c0, (World.cell?_of_block (a := ⟨n, 1, none⟩) hb).trans h.c1, (World.cell?_of_block (a := ⟨n, 2, none⟩) hb).trans h.c2⟩
theorem RBox.new (w : World) (p : Vis) (ty : TypeId) : RBox (w.alloc (.cells #[.string (bP p.1), .int .i64 (p.1.length : Nat), .int .i64 (p.2 : Nat)] ty)) w.heap.size p :=
  ⟨by simp, by simp, by simp, by simp⟩
theorem RBox.alloc {w : World} {n : Nat} {p : Vis} (h : RBox w n p) (o : Obj) : RBox (w.alloc o) n p :=
  h.of_block (by simp) (heap_alloc_old w o h.lt)

/-- What holds while the row grows: the tree's box at block w.heap.size, the row above it. -/
structure RtInv (w wr : World) (a : Option Addr) (n c : Nat) (v : Value) (L : List Vis) : Prop where
  b : Below w.heap.size w wr
  tb : One wr w.heap.size (.slice a n c)
  own : wr.ownsRow (w.heap.size + 1) 56 3 v L.length (flatV L)
theorem RtInv.step {w wr z : World} {a : Option Addr} {n c : Nat} {v : Value} {L : List Vis} (h : RtInv w wr a n c v L) (hb : Below wr.heap.size wr z) : RtInv w z a n c v L :=
  ⟨h.b.trans (hb.mono h.b.size), h.tb.below hb h.tb.lt, own_below h.own hb⟩
theorem RtInv.grow {w wr z : World} {a : Option Addr} {n c : Nat} {v v' : Value} {L L' : List Vis} (h : RtInv w wr a n c v L) (ho : z.ownsRow (w.heap.size + 1) 56 3 v' L'.length (flatV L')) (hg : wr.grownBy z v.ownBlock) : RtInv w z a n c v' L' :=
  ⟨h.b.trans ((Kept.of_grown (S := fun _ => False) hg).below h.b.size (fun _ hk => hk.elim) (fun g hg2 => by have := own_low h.own g hg2; omega)), h.tb.grown hg (fun e => by have := own_low h.own _ e.symm; omega), ho⟩

theorem RtInv.put {w wr y z : World} {a : Option Addr} {n c : Nat} {v v' : Value} {L : List Vis} {p : Vis} (h : RtInv w wr a n c v L) (hb : Below wr.heap.size wr y) (ho : z.ownsRow (w.heap.size + 1) 56 3 v' (L.length + 1) (flatV (L ++ [p]))) (hg : y.grownBy z v.ownBlock) : RtInv w z a n c v' (L ++ [p]) :=
  (h.step hb).grow (by simpa using ho) hg
theorem RBox.put {wr y z : World} {nb : Nat} {v : Value} {p : Vis} (h : RBox wr nb p) (hb : Below wr.heap.size wr y) (hg : y.grownBy z v.ownBlock) (hn : ∀ q, v.ownBlock = some q → q ≠ nb) : RBox z nb p :=
  (h.of_block hb.size (hb.block nb h.lt)).of_block hg.size (hg.block nb (Nat.lt_of_lt_of_le h.lt hb.size) (fun e => hn nb e.symm rfl))
theorem vis_lt {L : List Vis} {i : Nat} (h : i < L.length) : L.getD i V0 ∈ L := by rw [visD h]; exact List.getElem_mem h

theorem toL47 : (⟨#[47]⟩ : ByteArray).toList = [47] := by decide +kernel
theorem base_cases {xs : List ByteArray} (hv : ∀ x ∈ xs, vname x = true) : ∃ Bs : ByteArray, Bs = ⟨(flatP xs).toArray⟩ ∧ (((bP xs).toList == [47]) = true ∧ Bs = ⟨#[]⟩ ∨ ((bP xs).toList == [47]) = false ∧ Bs = bP xs) := by
  by_cases h : xs = []
  · subst h
    exact ⟨⟨#[]⟩, rfl, .inl ⟨by rw [bP_nil, toL47]; rfl, rfl⟩⟩
  · exact ⟨bP xs, by unfold bP; rw [pstr_flat h], .inr ⟨by rw [← toL47, beq_str]; simpa using bP_ne h hv, rfl⟩⟩
theorem sz_arr (l : List UInt8) : (⟨l.toArray⟩ : ByteArray).size = l.length := by simp [ByteArray.size]

set_option maxRecDepth 100000 in
set_option maxHeartbeats 8000000 in
theorem routes_any (a : Option Addr) (c : Nat) (t : Tr) (s : Nat) (w : World) (h1 : Ok1 t) (fr : From t s) (h : Nods w w.heap.size a c t) :
    Calls Tryz.prog 23 #[.agg #[.slice a t.length c], .int .i64 (s : Int)] w fun e w' => ∃ v L, e = .returned v ∧ Vs w' w'.heap.size v L ∧ (visits t s).Perm L ∧ (∀ q, v.ownBlock = some q → w.heap.size < q) ∧ Below w.heap.size w w' := by
  have H := Lib.hid h
  have H1 := Lib.hid h1
  have FR := Lib.hid fr
  have hlen := len_visits h1 fr
  have h40 := h1.le
  have I0 := Lib.hid (show RtInv w ((w.alloc (.cells #[.slice a t.length c] 24)).alloc (.cells #[.string ⟨#[47]⟩, .int .i64 0, .int .i64 (s : Int)] 56)) a t.length c (.slice (some ⟨w.heap.size + 1, 0, none⟩) 1 1) [([], s)] from
    ⟨((Below.refl _ _).alloc (Nat.le_refl _) _).alloc (by first | omega | (simp; done) | (simp; omega)) _, (One.new w _ _).alloc _, by have := vs_new (w.alloc (.cells #[.slice a t.length c] 24)) ([], s); rw [bP_nil] at this; simpa using this⟩)
  clear h h1 fr
  go_enter Tryz.func23, Tryz.ntmps23
  go_wp2_with fail
  have HLEN := Lib.hid (fun L i (b : Bfs t s L i) => b.len FR.out.fin)
  generalize hM : (visits t s).length = M at *
  go_loopg [5, 6, 7, 8, 9, 10] M (fun gg s5 s6 _ _ _ _ wr => ∃ (L : List Vis) (i : Nat), i ≤ L.length ∧ 0 < L.length ∧ M - i ≤ gg ∧ s6 = .int .i64 i ∧ Aside (Bfs t s L i) ∧ Aside (RtInv w wr a t.length c s5 L))
  case atStart => exact ⟨[([], s)], 0, by omega, by simp, by omega, rfl, Bfs.start, I0.out⟩
  case round =>
    obtain ⟨L, i, hi, hL0, hg, rfl, BF, I⟩ := hrel
    clear I0
    obtain ⟨w2, rfl⟩ : ∃ w2 : World, w2 = wr := ⟨_, rfl⟩
    have hLM := HLEN.out L i BF.out
    have hbs := I.out.b.size
    have tc := I.out.tb.c0
    have tl := I.out.tb.lt
    obtain ⟨rb, rc, rfl, hrc, _, hrb, hcell⟩ := vs_own I.out.own hL0
    by_cases hlt : i < L.length
    · have hltz : (i : Int) < (L.length : Int) := by omega
      have hi0 : (0 : Int) ≤ (i : Int) := Int.natCast_nonneg _
      have hm9 : M - (i + 1) < M - i := by omega
      obtain ⟨r0, r1, r2⟩ := hcell i hlt
      have hrch := BF.out.rch _ (vis_lt hlt)
      obtain ⟨hm, _, hvn⟩ := H1.out.rch hrch FR.out.lt FR.out.used
      have hxl : (L.getD i V0).1.length ≤ 40 := Nat.le_trans (FR.out.fin _ _ hrch) h40
      have HB := Lib.hid (show Bfs t s (L ++ next t (L.getD i V0)) (i + 1) from by rw [visD hlt]; exact BF.out.step FR.out.fin hlt)
      have hfs := flatP_size hvn
      have hbz := bP_size hvn
      obtain ⟨Bs, hBs, hcase⟩ := base_cases hvn
      have hcs := Lib.hid hBs
      clear hcell hrch hBs hvn
      generalize hp : L.getD i V0 = p at *
      obtain ⟨xs, m⟩ := p
      simp only at r0 r1 r2 hm hxl hfs hbz hcs hcase
      have mlz : (m : Int) < (t.length : Int) := by omega
      have mz : (0 : Int) ≤ (m : Int) := Int.natCast_nonneg _
      obtain ⟨b, o, ve, vd, va, vx, rfl, hb, hc, hs⟩ := H.out.one hm
      obtain ⟨ea, ec, rfl, hec, hel, hef, hex⟩ := hs.es
      have g2w := hc.c2
      change w.cell? ⟨b, o + m * 8 + 2, none⟩ = some (.slice ea (kids t m).length ec) at g2w
      have g2 := (I.out.b.cell (p := ⟨b, o + m * 8 + 2, none⟩) hb).trans g2w
      change (kids t m).length ≤ ec at hec
      change (kids t m).length ≤ 35184372088832 at hel
      have hk16 := (H1.out.fine m).len
      change (kids t m).length ≤ 16 at hk16
      have HEX := Lib.hid (show 0 < (kids t m).length → ∃ b o, ea = some ⟨b, o, none⟩ ∧ b < w.heap.size ∧ ∀ j, j < (kids t m).length →
        w.cell? ⟨b, o + j * 2, none⟩ = some (.string ((kids t m).getD j D0).n) ∧ w.cell? ⟨b, o + j * 2 + 1, none⟩ = some (.int .i64 ((kids t m).getD j D0).i) from hex)
      have HKD := Lib.hid (fun k (hk : k < (kids t m).length) => H1.out.kid (show (kids t m).getD k D0 ∈ kids t m from by rw [deD hk]; exact List.getElem_mem hk))
      have HSN := Lib.hid (fun k (hk : k < (kids t m).length) => someNext_succ (t := t) (p := (xs, m)) hk)
      have HSL := Lib.hid (fun k => someNext_len t (xs, m) k)
      have HSA := Lib.hid (someNext_all t (xs, m))
      have HSZ := Lib.hid (someNext_zero t (xs, m))
      clear hc hs hef hex
      generalize hn : (kids t m).length = n at *
      have I1 := Lib.hid (I.out.step ((Below.refl w2.heap.size w2).alloc (Nat.le_refl _) (.cells #[.string (bP xs), .int .i64 (xs.length : Nat), .int .i64 (m : Nat)] 56)))
      have R1 := Lib.hid (RBox.new w2 (xs, m) 56)
      have B1 := Lib.hid ((Below.refl w2.heap.size w2).alloc (Nat.le_refl _) (.cells #[.string (bP xs), .int .i64 (xs.length : Nat), .int .i64 (m : Nat)] 56))
      have HI := Lib.hid (own_in I.out.own)
      rcases hcase with ⟨ht, rfl⟩ | ⟨ht, rfl⟩
      all_goals
        go_wp2_with fail
        clear tc tl g2 ht r0 r1 r2
        go_loopg [5, 9, 10] n (fun gg s5 s9 _ wq => ∃ k : Nat, k ≤ n ∧ n - k ≤ gg ∧ s9 = .int .i64 k ∧ Aside (RtInv w wq (some ⟨b, o, none⟩) t.length c s5 (L ++ someNext t (xs, m) k)) ∧ Aside (RBox wq w2.heap.size (xs, m)) ∧ Aside (∀ q, s5.ownBlock = some q → q ≠ w2.heap.size))
        case atStart => exact ⟨0, by omega, by omega, rfl, by rw [HSZ.out, List.append_nil]; exact I1.out, R1.out, (show ∀ q, _ → _ from fun q hq => by have := HI.out q hq; omega)⟩
        case round =>
          obtain ⟨k, hk, hg2, rfl, IQ, RQ, NQ⟩ := hrel
          clear I1 R1 B1
          have hsl := HSL.out k
          have hbq := IQ.out.b.size
          have tc := IQ.out.tb.c0
          have tl := IQ.out.tb.lt
          have z0 := RQ.out.c0
          have z1 := RQ.out.c1
          have z2 := RQ.out.c2
          have zl := RQ.out.lt
          simp only at z0 z1 z2
          have g2 := (IQ.out.b.cell (p := ⟨b, o + m * 8 + 2, none⟩) hb).trans g2w
          have HIQ := Lib.hid (own_in IQ.out.own)
          by_cases hlk : k < n
          · have hlkz : (k : Int) < (n : Int) := by omega
            have hk0 : (0 : Int) ≤ (k : Int) := Int.natCast_nonneg _
            have hm8 : n - (k + 1) < n - k := by omega
            obtain ⟨be, oe, rfl, hbe, hje⟩ := HEX.out (by omega)
            have g0 := (IQ.out.b.cell (p := ⟨be, oe + k * 2, none⟩) hbe).trans (hje k hlk).1
            have g1 := (IQ.out.b.cell (p := ⟨be, oe + k * 2 + 1, none⟩) hbe).trans (hje k hlk).2
            have HS := Lib.hid (HSN.out k hlk)
            obtain ⟨q1, q2, q3, _, _⟩ := HKD.out k hlk
            clear hje
            generalize hy : (kids t m).getD k D0 = e at *
            obtain ⟨x, ei⟩ := e
            simp only at g0 g1 q1 q2 q3
            obtain ⟨n2, rfl⟩ := Int.eq_ofNat_of_zero_le (Int.le_of_lt q2)
            simp only [Int.toNat_natCast] at q3
            have hxs := (vname_size q1).2
            clear hy q1 q2
            simp only [Int.toNat_natCast] at HS
            have HL := Lib.hid (show L ++ someNext t (xs, m) (k + 1) = (L ++ someNext t (xs, m) k) ++ [(xs ++ [x], n2)] from by rw [HS.out, List.append_assoc])
            have hll : (L ++ someNext t (xs, m) k).length ≤ 700 := by rw [List.length_append]; omega
            have hl0 : 0 < (L ++ someNext t (xs, m) k).length := by rw [List.length_append]; omega
            generalize L ++ someNext t (xs, m) k = Lk at *
            obtain ⟨qb, qc, rfl, hqc, _, hqb, _⟩ := vs_own IQ.out.own hl0
            have hs1 : (bP xs).size + 1 ≤ 9223372036854775807 := by omega
            have hs2 : (bP xs).size + 1 + x.size ≤ 9223372036854775807 := by omega
            go_wp2_with (at_builtin; refine wpList_append_rt rfl (.tmp 50) (.tmp 62) rfl (w.heap.size + 1) _ _ Lk rfl (own_below IQ.out.own (((Below.refl wr.heap.size wr).alloc (Nat.le_refl _) _).alloc (by first | omega | (simp; done) | (simp; omega)) _)) (wr.heap.size + 1) (xs ++ [x], n2) rfl (by show _ = some (Value.string (bP (xs ++ [x]))); rw [← bP_snoc, ← hcs.out]; simp) (by simp) (by simp) (by omega) (by simp; omega) ?_; intro v3 w3 hown3 hg3 hq3)
            have IP := Lib.hid (RtInv.put IQ.out (hg := hg3) (ho := hown3) (hb := by exact (((Below.refl wr.heap.size wr).alloc (Nat.le_refl _) _).alloc (by first | omega | (simp; done) | (simp; omega)) _)))
            have RP := Lib.hid (RBox.put RQ.out (hg := hg3) (hn := NQ.out) (hb := by exact (((Below.refl wr.heap.size wr).alloc (Nat.le_refl _) _).alloc (by first | omega | (simp; done) | (simp; omega)) _)))
            have NP := Lib.hid (show ∀ q, v3.ownBlock = some q → q ≠ w2.heap.size from fun q hq => by
              rcases hq3 with h9 | h9
              · exact NQ.out q (h9.symm.trans hq)
              · rw [h9] at hq; injection hq with hq; simp at hq; omega)
            clear hown3 hg3 hq3
            go_roundg (n - (k + 1))
            case measure => omega
            case rel => exact ⟨k + 1, by omega, by omega, by go_num, by rw [HL.out]; exact IP.out, RP.out, NP.out⟩
          · have hkn : k = n := by omega
            have HE := Lib.hid (show Bfs t s (L ++ someNext t (xs, m) k) (i + 1) from by rw [hkn, HSA.out]; exact HB.out)
            have hll : i + 1 ≤ (L ++ someNext t (xs, m) k).length := by rw [List.length_append]; omega
            have hl0 : 0 < (L ++ someNext t (xs, m) k).length := by rw [List.length_append]; omega
            clear hkn
            go_wp2_with fail
            go_roundg (M - (i + 1))
            case measure => omega
            case rel => exact ⟨_, i + 1, hll, hl0, by omega, by go_num, HE.out, IQ.out⟩
    · obtain rfl : i = L.length := by omega
      have HP := Lib.hid BF.out.done
      have HV := Lib.hid (vs_own I.out.own hL0)
      have HO := Lib.hid (own_low I.out.own)
      go_wp2
      go_ret
      exact ⟨_, _, rfl, HV.out, HP.out, fun q hq => by have := HO.out q hq; omega, I.out.b⟩

end Go.Proofs.YtoeiaffkedkepaaGreatDoor

/- The reference's Usage. Conditions: the tree's inodes are valid by themselves, all walks from the inode end; the tree's cells lie in memory as they read. -/
namespace Go.Proofs.YtoeiaffkedkepaaGreatDoor
open Go.RowKit

theorem hasL_take {L : List Vis} {j i : Nat} (h : j < L.length) : hasL (L.take (j + 1)) i = (hasL (L.take j) i || decide ((L.getD j V0).2 = i)) := by
  rw [List.take_succ_eq_append_getElem h, hasL_snoc, visD h]
theorem farL_take {L : List Vis} {j i : Nat} (h : j < L.length) : farL (L.take (j + 1)) i = (farL (L.take j) i || (decide ((L.getD j V0).2 = i) && tooFar (L.getD j V0).1)) := by
  rw [List.take_succ_eq_append_getElem h, farL_snoc, visD h]
theorem usg_take {t : Tr} {L : List Vis} {j : Nat} (h : j < L.length) (hp : (L.getD j V0).2 < t.length) : usg t (L.take (j + 1)) = if hasL (L.take j) (L.getD j V0).2 = true then usg t (L.take j) else usg t (L.take j) + (nod t (L.getD j V0).2).dl := by
  rw [List.take_succ_eq_append_getElem h, ← visD h, usg_snoc hp]
theorem Vs.far {w : World} {B : Nat} {v : Value} {L : List Vis} (h : Vs w B v L) {p : Addr} (hp : ∀ q, v.ownBlock = some q → q ≠ p.block) (u : Value) : Vs (w.setCell p u) B v L := by
  obtain ⟨b, c, rfl, hc, h0, hB, hj⟩ := h
  have hb := hp b rfl
  have k : ∀ o, (w.setCell p u).cell? ⟨b, o, none⟩ = w.cell? ⟨b, o, none⟩ := fun o => World.cell?_setCell_other w p _ u (fun e => hb (by rw [e]))
  refine ⟨b, c, rfl, hc, h0, hB, fun j hl => ?_⟩
  rw [k, k, k]
  exact hj j hl

theorem Vs.cell {w : World} {B rb n rc : Nat} {L : List Vis} (h : Vs w B (.slice (some ⟨rb, 0, none⟩) n rc) L) {j : Nat} (hj : j < L.length) : rb < B ∧ w.cell? ⟨rb, j * 3, none⟩ = some (.string (bP (L.getD j V0).1)) ∧ w.cell? ⟨rb, j * 3 + 1, none⟩ = some (.int .i64 ((L.getD j V0).1.length : Nat)) ∧ w.cell? ⟨rb, j * 3 + 2, none⟩ = some (.int .i64 ((L.getD j V0).2 : Nat)) := by
  obtain ⟨b, c, hve, _, _, hB, hx⟩ := h
  injection hve with hve _ _
  injection hve with hve
  injection hve with e1 _ _
  subst e1
  exact ⟨hB, hx j hj⟩
/-- What holds while the sizes are added. -/
structure UR (w wr : World) (a : Option Addr) (c : Nat) (t : Tr) (v : Value) (L : List Vis) (B j : Nat) : Prop where
  b : Below w.heap.size w wr
  tb : One wr w.heap.size (.slice a t.length c)
  row : Row wr (w.heap.size + 1) t.length (fun i => .bool (hasL (L.take j) i))
  vs : Vs wr B v L
theorem UR.step {w wr z : World} {a : Option Addr} {c : Nat} {t : Tr} {v : Value} {L : List Vis} {B j : Nat} (h : UR w wr a c t v L B j) (hb : Below wr.heap.size wr z) (hB : B ≤ wr.heap.size) : UR w z a c t v L B j :=
  ⟨h.b.trans (hb.mono h.b.size), h.tb.below hb h.tb.lt, h.row.below hb h.row.lt, h.vs.below (hb.mono hB)⟩
theorem UR.mark {w wr : World} {a : Option Addr} {c : Nat} {t : Tr} {v : Value} {L : List Vis} {B j m : Nat} (h : UR w wr a c t v L B j) (hv : ∀ q, v.ownBlock = some q → w.heap.size + 1 < q) (hj : j < L.length) (hm : (L.getD j V0).2 = m) (hmt : m < t.length) : UR w (wr.setCell ⟨w.heap.size + 1, m, none⟩ (.bool true)) a c t v L B (j + 1) :=
  ⟨h.b.setCell (by simp) _, h.tb.far (by simp) _, (h.row.put hmt _).ext (fun i _ => by
    rw [hasL_take hj, hm]
    by_cases e : i = m
    · subst e; simp
    · rw [if_neg e, decide_eq_false (fun h => e h.symm), Bool.or_false]), h.vs.far (fun q hq => by have := hv q hq; simp; omega) _⟩

set_option maxRecDepth 100000 in
set_option maxHeartbeats 3200000 in
theorem refUsage_any (a : Option Addr) (c : Nat) (t : Tr) (n : Nat) (w : World) (h1 : Ok1 t) (fr : From t n) (h : Nods w w.heap.size a c t) :
    Calls Tryz.prog 24 #[.agg #[.slice a t.length c], .int .i64 (n : Int)] w fun e w' => e = .returned (.int .i64 (usg t (visits t n) : Nat)) ∧ Below w.heap.size w w' := by
  have hn := fr.lt
  have hk := fr.used
  have H := Lib.hid h
  have H1 := Lib.hid h1
  have FR := Lib.hid fr
  have hmk := make_bools t.length h1.le
  have nlz : (n : Int) < (t.length : Int) := by omega
  have nz : (0 : Int) ≤ (n : Int) := Int.natCast_nonneg _
  obtain ⟨b, o, ve, vd, va, vx, rfl, hb, hc, hs⟩ := h.one hn
  have c0 := hc.c0
  have hkb : ((nod t n).k == 0) = false := by simpa using hk
  generalize (nod t n).k = gk at *
  have BB := Lib.hid (show Below w.heap.size w ((w.alloc (.cells #[.slice (some ⟨b, o, none⟩) t.length c] 24)).alloc (.cells (madeCells #[.bool false] t.length) 4)) from
    ((Below.refl _ _).alloc (Nat.le_refl _) _).alloc (by first | omega | (simp; done) | (simp; omega)) _)
  have TT := Lib.hid (show One ((w.alloc (.cells #[.slice (some ⟨b, o, none⟩) t.length c] 24)).alloc (.cells (madeCells #[.bool false] t.length) 4)) w.heap.size (.slice (some ⟨b, o, none⟩) t.length c) from (One.new w _ _).alloc _)
  have RR := Lib.hid (show Row ((w.alloc (.cells #[.slice (some ⟨b, o, none⟩) t.length c] 24)).alloc (.cells (madeCells #[.bool false] t.length) 4)) (w.heap.size + 1) t.length (fun _ => .bool false) from (row_new (w.alloc _) t.length (.bool false) _).at_ (by simp))
  have HQ := Lib.hid (routes_any (some ⟨b, o, none⟩) c t n _ h1 fr (h.up BB.out))
  clear hc hs h h1 fr hk
  go_enter Tryz.func24, Tryz.ntmps24
  go_wp2_with fail
  refine HQ.out.mono ?_
  rintro e w2 ⟨v, L, rfl, hvs, hperm, hlow, b2⟩
  have P := Lib.hid hperm
  have HU := Lib.hid (usg_perm t hperm)
  have hl6 : L.length ≤ 641 := by rw [← hperm.length_eq]; exact len_visits H1.out FR.out
  have hv : ∀ q, v.ownBlock = some q → w.heap.size + 1 < q := fun q hq => by have := hlow q hq; simp at this; omega
  have HV := Lib.hid hv
  have X0 := Lib.hid (show UR w w2 (some ⟨b, o, none⟩) c t v L w2.heap.size 0 from ⟨BB.out.trans (b2.mono (by first | omega | (simp; done) | (simp; omega))), TT.out.below b2 TT.out.lt, (RR.out.below b2 RR.out.lt).ext (fun _ _ => by simp [hasL]), hvs⟩)
  obtain ⟨rb, rc, rfl, hrc, hL0, _, _⟩ := hvs
  have hw2 := b2.size
  clear hperm hlow b2 HQ TT RR BB hv c0 hmk
  go_wp2_with fail
  go_loopg [7, 8] L.length (fun gg s7 s8 wr => ∃ j : Nat, j ≤ L.length ∧ L.length - j ≤ gg ∧ s7 = .int .i64 (usg t (L.take j) : Nat) ∧ s8 = .int .i64 j ∧ w2.heap.size ≤ wr.heap.size ∧ Aside (UR w wr (some ⟨b, o, none⟩) c t (.slice (some ⟨rb, 0, none⟩) L.length rc) L w2.heap.size j))
  case atStart => exact ⟨0, by omega, by omega, by rw [List.take_zero, usg_nil]; rfl, rfl, Nat.le_refl _, X0.out⟩
  case round =>
    obtain ⟨j, hj, hg, rfl, rfl, hw2r, X⟩ := hrel
    clear X0
    by_cases hlt : j < L.length
    · have hltz : (j : Int) < (L.length : Int) := by omega
      have hj0 : (0 : Int) ≤ (j : Int) := Int.natCast_nonneg _
      have hm9 : L.length - (j + 1) < L.length - j := Nat.sub_lt_sub_left hlt (Nat.lt_succ_self j)
      have r2 := (X.out.vs.cell hlt).2.2.2
      have hmem : L.getD j V0 ∈ L := by rw [visD hlt]; exact List.getElem_mem hlt
      have hrch := (mem_visits FR.out.fin (ys := (L.getD j V0).1) (m := (L.getD j V0).2)).1 (P.out.mem_iff.2 hmem)
      have hml := (H1.out.rch hrch FR.out.lt FR.out.used).1
      have HT := Lib.hid (usg_take (t := t) hlt hml)
      have hdl := (H1.out.fine (L.getD j V0).2).dl
      have hul := usg_le H1.out (L.take j)
      clear hmem hrch
      generalize hm : (L.getD j V0).2 = m at *
      have HM := Lib.hid hm
      clear hm
      have mlz : (m : Int) < (t.length : Int) := by omega
      have mz : (0 : Int) ≤ (m : Int) := Int.natCast_nonneg _
      have rr := X.out.row.c m hml
      have rf := X.out.row.fz m
      have rl := X.out.row.lt
      have tc := X.out.tb.c0
      have tl := X.out.tb.lt
      obtain ⟨b', o', ve, vd, va, vx, hae, hb', hc, hs⟩ := (H.out.up X.out.b).one hml
      injection hae with hae
      injection hae with e1 e2 _
      subst e1 e2
      obtain ⟨da, dc, rfl, _⟩ := hs.dl
      have g3 := hc.c3
      clear hc hs
      have XX := Lib.hid (X.out.mark HV.out hlt HM.out hml)
      generalize hu : usg t (L.take j) = u at *
      generalize (nod t m).dl = d at *
      cases hx : hasL (L.take j) m with
      | true =>
        rw [hx] at rr
        have HT2 := Lib.hid (show usg t (L.take (j + 1)) = u by rw [HT.out, if_pos hx])
        clear hx HT
        go_wp2
        go_roundg (L.length - (j + 1))
        case measure => exact Nat.lt_of_lt_of_le hm9 hg
        case rel => exact ⟨j + 1, by omega, by omega, by rw [HT2.out], by go_num, by simpa using hw2r, XX.out⟩
      | false =>
        rw [hx] at rr
        have HT2 := Lib.hid (show usg t (L.take (j + 1)) = u + d by rw [HT.out, if_neg (by rw [hx]; simp)])
        clear hx HT
        have dz : (0 : Int) ≤ (d : Int) := Int.natCast_nonneg _
        have uz : (0 : Int) ≤ (u : Int) := Int.natCast_nonneg _
        have hwr : IntKind.i64.wrap ((u : Int) + (d : Int)) = (u : Int) + (d : Int) := IntWalk.i64_in _ (by omega)
        have XY := Lib.hid ((X.out.step (Below.refl wr.heap.size wr).drew hw2r).mark HV.out hlt HM.out hml)
        clear XX
        go_wp2_with fail
        go_region
        all_goals
          go_wp2_with fail
          go_roundg (L.length - (j + 1))
          case measure => exact Nat.lt_of_lt_of_le hm9 hg
          case rel => exact ⟨j + 1, by omega, by omega, by rw [HT2.out]; go_num, by go_num, by simpa using hw2r, XY.out⟩
    · obtain rfl : j = L.length := by omega
      have hul := usg_le H1.out L
      go_wp2
      go_ret
      exact ⟨ret_int (by rw [List.take_length, HU.out]), X.out.b⟩

end Go.Proofs.YtoeiaffkedkepaaGreatDoor

/- The reference's SortStrings at every list of distinct strings: the same strings in ascending order; farshelfequal.Strings at two slices of the same strings. Conditions: the slices' cells lie in memory as they read. -/
namespace Go.Proofs.YtoeiaffkedkepaaGreatDoor
open Go.RowKit

theorem strsSame_any (v1 v2 : Value) (xs : List ByteArray) (w : World) (B1 B2 : Nat) (h1 : Strs w B1 v1 xs) (h2 : Strs w B2 v2 xs) :
    Calls Tryz.prog 9 #[v1, v2] w fun e w' => e = .returned (.bool true) ∧ ∃ q, w' = w.drewN q := by
  obtain ⟨a1, c1, rfl, _, hl, _, hx1⟩ := h1
  obtain ⟨a2, c2, rfl, _, _, _, hx2⟩ := h2
  have HX1 := Lib.hid hx1
  have HX2 := Lib.hid hx2
  clear hx1 hx2
  go_enter Tryz.func9, Tryz.ntmps9
  go_wp2
  go_loopg [5] xs.length (fun gg s5 wr => ∃ k q : Nat, k ≤ xs.length ∧ xs.length - k ≤ gg ∧ s5 = .int .i64 k ∧ wr = w.drewN q)
  case atStart => exact ⟨0, 0, by omega, by omega, rfl, rfl⟩
  case round =>
    obtain ⟨k, q, hk, hg, rfl, rfl⟩ := hrel
    by_cases hlt : k < xs.length
    · have hltz : (k : Int) < (xs.length : Int) := by omega
      have hi0 : (0 : Int) ≤ (k : Int) := Int.natCast_nonneg _
      obtain ⟨b1, o1, rfl, _, hj1⟩ := HX1.out (by omega)
      obtain ⟨b2, o2, rfl, _, hj2⟩ := HX2.out (by omega)
      have g0 := hj1 k hlt
      have d0 := hj2 k hlt
      clear hj1 hj2
      generalize xs.getD k ByteArray.empty = y at *
      go_wp2_with fail
      go_quiet (fail)
      go_wp2_with fail
      go_roundg (xs.length - (k + 1))
      case measure => omega
      case rel => exact ⟨k + 1, _, by omega, by omega, by go_num, rfl⟩
    · have hltz : ¬ (k : Int) < (xs.length : Int) := by omega
      go_wp2_with fail
      go_ret
      exact ⟨rfl, _, rfl⟩



set_option maxRecDepth 100000 in
set_option maxHeartbeats 8000000 in
theorem sortStrings_any (v : Value) (L : List ByteArray) (w : World) (h : Strs w w.heap.size v L) (hnd : L.Nodup) (hl7 : L.length ≤ 100000) :
    Calls Tryz.prog 25 #[v] w (SortPost L w) := by
  have HA := Lib.hid h
  have HF := Lib.hid (show ∀ x ∈ L, x.size ≤ maxLen from by obtain ⟨_, _, _, _, _, hs, _⟩ := h; exact hs)
  obtain ⟨la, lc, rfl, hlc⟩ := h.form rfl
  have HND := Lib.hid hnd
  clear h hnd
  go_enter Tryz.func25, Tryz.ntmps25
  go_wp2_with fail
  have IN := Lib.hid (show SNv w w [] (.slice none 0 0) from ⟨Below.refl _ _, ⟨rfl, .inl ⟨rfl, rfl⟩⟩⟩)
  go_loopg [3, 4, 5] L.length (fun gg s3 s4 _ wr => ∃ i : Nat, i ≤ L.length ∧ L.length - i ≤ gg ∧ s4 = .int .i64 i ∧ ∃ acc : List ByteArray, Aside (acc.length = i) ∧ Aside (Asc acc) ∧ Aside (∀ x, x ∈ acc ↔ x ∈ L.take i) ∧ Aside (SNv w wr acc s3))
  case atStart => exact ⟨0, by omega, by omega, rfl, [], rfl, (show Asc [] from List.Pairwise.nil), (show ∀ x, _ ↔ _ from fun x => by simp), IN.out⟩
  case round =>
    obtain ⟨i, hi, hg, rfl, acc, HAI, ASC, MEM, I⟩ := hrel
    clear IN
    obtain ⟨w2, rfl⟩ : ∃ w2 : World, w2 = wr := ⟨_, rfl⟩
    have AF := Lib.hid (show ∀ x ∈ acc, x.size ≤ maxLen from fun x hx => HF.out x (List.mem_of_mem_take ((MEM.out x).1 hx)))
    have hal : acc.length ≤ L.length := by have := HAI.out; omega
    by_cases hlt : i < L.length
    · have hltz : (i : Int) < (L.length : Int) := by omega
      have hi0 : (0 : Int) ≤ (i : Int) := Int.natCast_nonneg _
      obtain ⟨b, o, rfl, hb, hj⟩ := HA.out.spot (by omega)
      have g0w := hj i hlt
      have HTK := Lib.hid (show L.take (i + 1) = L.take i ++ [L.getD i ByteArray.empty] from by rw [List.take_succ_eq_append_getElem hlt, strD hlt])
      have HNEW := Lib.hid (show L.getD i ByteArray.empty ∉ acc from fun hm => by
        have h1 := (MEM.out _).1 hm
        obtain ⟨j, hj2, e⟩ := List.mem_iff_getElem.1 h1
        rw [List.length_take] at hj2
        rw [List.getElem_take, strD hlt] at e
        have h3 := HND.out
        unfold List.Nodup at h3
        exact List.pairwise_iff_getElem.1 h3 j i (by omega) hlt (by omega) e)
      have hnf : (L.getD i ByteArray.empty).size ≤ maxLen := HF.out _ (by rw [strD hlt]; exact List.getElem_mem hlt)
      clear hj
      generalize L.getD i ByteArray.empty = nm at *
      have SA0 := strs_row I.out.own AF.out (by omega)
      obtain ⟨a7, c7, rfl, hc7⟩ := SA0.form rfl
      clear SA0
      go_wp2_with fail
      go_loopg [5] acc.length (fun gg s5 w5 => ∃ k : Nat, k ≤ acc.length ∧ acc.length - k ≤ gg ∧ s5 = .int .i64 k ∧ Aside (SNv w w5 acc (.slice a7 acc.length c7)) ∧ Aside (∀ j, j < k → ltS (acc.getD j ByteArray.empty) nm = true))
      case atStart => exact ⟨0, by omega, by omega, rfl, I.out, fun j hj => absurd hj (Nat.not_lt_zero _)⟩
      case round =>
        clear I
        obtain ⟨k, hk, hgk, rfl, I, KA⟩ := hrel
        have hk0 : (0 : Int) ≤ (k : Int) := Int.natCast_nonneg _
        have g0 := (I.out.B.cell (p := ⟨b, o + i, none⟩) hb).trans g0w
        have SA := Lib.hid (strs_row I.out.own AF.out (by omega))
        by_cases hkl : k < acc.length
        · have hklz : (k : Int) < (acc.length : Int) := by omega
          obtain ⟨b7, o7, rfl, hb7, hj7⟩ := SA.out.spot (by omega)
          have k0 := hj7 k hkl
          clear hj7
          generalize hz : acc.getD k ByteArray.empty = z at k0
          have Z := Lib.hid hz
          clear hz
          have hzn : z ≠ nm := fun e => HNEW.out (by rw [← e, ← Z.out, strD hkl]; exact List.getElem_mem hkl)
          cases hlz : ltS nm z with
          | false =>
            have hle : (Op.bytesLess z.toList nm.toList || z.toList == nm.toList) = true := by rw [leqS, hlz]; rfl
            have hzt : ltS z nm = true := by
              cases h9 : ltS z nm with
              | true => rfl
              | false => exact absurd (ltS_eq h9 hlz) hzn
            have KZ := Lib.hid hzt
            clear hlz hzn hzt
            go_wp2_with fail
            go_quiet (fail)
            go_wp2_with fail
            go_roundg (acc.length - (k + 1))
            case measure => omega
            case rel =>
              refine ⟨k + 1, by omega, by omega, by go_num, I.out.drewN nq, (show Aside _ from fun j hj => ?_)⟩
              by_cases e : j = k
              · subst e; rw [Z.out]; exact KZ.out
              · exact KA.out j (by omega)
          | true =>
            have hle : (Op.bytesLess z.toList nm.toList || z.toList == nm.toList) = false := by rw [leqS, hlz]; rfl
            have HI := Lib.hid (show Asc (acc.take k ++ [nm] ++ acc.drop k) ∧ ∀ x, x ∈ acc.take k ++ [nm] ++ acc.drop k ↔ x ∈ L.take (i + 1) from by rw [HTK.out]; exact ascOf_ins ASC.out MEM.out hk KA.out (fun _ => by rw [Z.out]; exact hlz))
            clear hlz hzn
            have hck : ¬ c7 = k := by omega
            have hkc : (k : Int) ≤ (c7 : Int) := by omega
            have hkl2 : (k : Int) ≤ (acc.length : Int) := by omega
            have hlc2 : (acc.length : Int) ≤ (c7 : Int) := by omega
            go_wp2_with fail
            go_quiet (fail)
            obtain ⟨hbz, G2, I2, SA2⟩ : b < wr.heap.size ∧ Hid ((wr.drewN nq).cell? ⟨b, o + i, none⟩ = some (.string nm)) ∧ Hid (SNv w (wr.drewN nq) acc (.slice (some ⟨b7, o7, none⟩) acc.length c7)) ∧ Hid (Strs (wr.drewN nq) (wr.drewN nq).heap.size (.slice (some ⟨b7, o7, none⟩) acc.length c7) acc) := ⟨Nat.lt_of_lt_of_le hb I.out.B.size, Lib.hid g0, Lib.hid (I.out.drewN nq), Lib.hid SA.out⟩
            change b < (wr.drewN nq).heap.size at hbz
            clear I SA g0 KA k0
            generalize wr.drewN nq = wz at *
            go_wp2_with fail
            go_region_held3 (fun y => y.cell? ⟨b, o + i, none⟩ = some (.string nm))
              (first | exact kf | exact G2.out | exact cell_al kf _ | exact cell_al G2.out _ | exact cell_al (cell_al G2.out _) _ | go_keep)
              (first
                | (refine step_append_strs (by rfl) (.tmp 29) (.tmp 32) (by rfl) wz.heap.size (.slice (some ⟨wz.heap.size, 0, none⟩) 0 0) 0 [] (by simp [Act.eval]) ((own_empty wz wz.heap.size _ 9 (Nat.le_refl _) rfl).drew) wz.heap.size (.slice (some ⟨b7, o7, none⟩) k c7) (acc.take k) (by simp [Act.eval]) ((SA2.out.cut hk).alloc (Nat.le_refl _) _).drew (by first | omega | (simp; done) | (simp; omega)) (by first | omega | (simp; done) | (simp; omega)) ?_; intro x1 y1 hown1 hg1; have hB1 : Below wz.heap.size wz y1 := (((Below.refl _ _).alloc (Nat.le_refl _) _).drew).grown hg1 (by first | omega | (simp; done) | (simp; omega)) (fun g hg => by simp [Value.ownBlock] at hg; omega); have hs1 := hB1.size; have hq : y1.heap.size = y1.heap.size := rfl; have kf : y1.cell? ⟨b, o + i, none⟩ = some (.string nm) := (hB1.cell (p := ⟨b, o + i, none⟩) hbz).trans G2.out)
                | (refine step_append_strs (by rfl) (.tmp 29) (.tmp 32) (by rfl) wz.heap.size (.slice (some ⟨wz.heap.size, 0, none⟩) 0 0) 0 [] (by simp [Act.eval]) (((own_empty wz wz.heap.size _ 9 (Nat.le_refl _) rfl).alloc _).drew) wz.heap.size (.slice (some ⟨b7, o7, none⟩) k c7) (acc.take k) (by simp [Act.eval]) (((SA2.out.cut hk).alloc (Nat.le_refl _) _).alloc (by first | omega | (simp; done) | (simp; omega)) _).drew (by first | omega | (simp; done) | (simp; omega)) (by first | omega | (simp; done) | (simp; omega)) ?_; intro x1 y1 hown1 hg1; have hB1 : Below wz.heap.size wz y1 := ((((Below.refl _ _).alloc (Nat.le_refl _) _).alloc (by first | omega | (simp; done) | (simp; omega)) _).drew).grown hg1 (by first | omega | (simp; done) | (simp; omega)) (fun g hg => by simp [Value.ownBlock] at hg; omega); have hs1 := hB1.size; have hq : y1.cell? ⟨wz.heap.size + 1, 0, none⟩ = some (.string nm) := cell_grown hg1 (show World.cell? ((wz.alloc (.cells #[] 9)).alloc (.cells #[.string nm] 9)) ⟨wz.heap.size + 1, 0, none⟩ = _ from by simp) (by simp [Value.ownBlock]); have kf : y1.cell? ⟨b, o + i, none⟩ = some (.string nm) := (hB1.cell (p := ⟨b, o + i, none⟩) hbz).trans G2.out)
                | (refine step_append_strs (by rfl) (.tmp 29) (.tmp 32) (by rfl) wz.heap.size (.slice (some ⟨wz.heap.size + 1, 0, none⟩) 0 0) 0 [] (by simp [Act.eval]) ((own_empty (wz.alloc (.cells #[.string nm] 9)) wz.heap.size _ 9 (by first | omega | (simp; done) | (simp; omega)) (by simp)).drew) wz.heap.size (.slice (some ⟨b7, o7, none⟩) k c7) (acc.take k) (by simp [Act.eval]) (((SA2.out.cut hk).alloc (Nat.le_refl _) _).alloc (by first | omega | (simp; done) | (simp; omega)) _).drew (by first | omega | (simp; done) | (simp; omega)) (by first | omega | (simp; done) | (simp; omega)) ?_; intro x1 y1 hown1 hg1; have hB1 : Below wz.heap.size wz y1 := ((((Below.refl _ _).alloc (Nat.le_refl _) _).alloc (by first | omega | (simp; done) | (simp; omega)) _).drew).grown hg1 (by first | omega | (simp; done) | (simp; omega)) (fun g hg => by simp [Value.ownBlock] at hg; omega); have hs1 := hB1.size; have hq : y1.cell? ⟨wz.heap.size, 0, none⟩ = some (.string nm) := cell_grown hg1 (show World.cell? ((wz.alloc (.cells #[.string nm] 9)).alloc (.cells #[] 9)) ⟨wz.heap.size, 0, none⟩ = _ from by simp) (by simp [Value.ownBlock]); have kf : y1.cell? ⟨b, o + i, none⟩ = some (.string nm) := (hB1.cell (p := ⟨b, o + i, none⟩) hbz).trans G2.out)
                | (refine step_append_strs (by rfl) (.tmp 33) (.tmp 38) (by rfl) wz.heap.size x1 _ _ (by simp [Act.eval]) (hown1.alloc _) _ (.slice (some ⟨y1.heap.size, 0, none⟩) 1 1) [nm] (by simp [Act.eval]) (strs_one y1 _ rfl nm hnf _) (by first | omega | (simp; done) | (simp; omega)) (by first | omega | (simp; done) | (simp; omega)) ?_; intro x2 y2 hown2 hg2; have hB2 : Below wz.heap.size wz y2 := (hB1.alloc hs1 _).grown hg2 (by first | omega | (simp; done) | (simp; omega)) (fun g hg => (hown1.lt g hg).1); have hs2 := hB2.size; have kf : y2.cell? ⟨b, o + i, none⟩ = some (.string nm) := (hB2.cell (p := ⟨b, o + i, none⟩) hbz).trans G2.out)
                | (refine step_append_strs (by rfl) (.tmp 33) (.tmp 38) (by rfl) wz.heap.size x1 _ _ (by simp [Act.eval]) hown1 _ (.slice (some ⟨wz.heap.size + 1, 0, none⟩) 1 1) [nm] (by simp [Act.eval]) (strs_cell (B := wz.heap.size + 2) hq (by omega) hnf) (by first | omega | (simp; done) | (simp; omega)) (by first | omega | (simp; done) | (simp; omega)) ?_; intro x2 y2 hown2 hg2; have hB2 : Below wz.heap.size wz y2 := (hB1).grown hg2 (by first | omega | (simp; done) | (simp; omega)) (fun g hg => (hown1.lt g hg).1); have hs2 := hB2.size; have kf : y2.cell? ⟨b, o + i, none⟩ = some (.string nm) := (hB2.cell (p := ⟨b, o + i, none⟩) hbz).trans G2.out)
                | (refine step_append_strs (by rfl) (.tmp 33) (.tmp 38) (by rfl) wz.heap.size x1 _ _ (by simp [Act.eval]) hown1 _ (.slice (some ⟨wz.heap.size, 0, none⟩) 1 1) [nm] (by simp [Act.eval]) (strs_cell (B := wz.heap.size + 2) hq (by omega) hnf) (by first | omega | (simp; done) | (simp; omega)) (by first | omega | (simp; done) | (simp; omega)) ?_; intro x2 y2 hown2 hg2; have hB2 : Below wz.heap.size wz y2 := (hB1).grown hg2 (by first | omega | (simp; done) | (simp; omega)) (fun g hg => (hown1.lt g hg).1); have hs2 := hB2.size; have kf : y2.cell? ⟨b, o + i, none⟩ = some (.string nm) := (hB2.cell (p := ⟨b, o + i, none⟩) hbz).trans G2.out)
                | (refine step_append_strs (by rfl) (.tmp 39) (.tmp 42) (by rfl) wz.heap.size x2 _ _ (by simp [Act.eval]) hown2 wz.heap.size (.slice (some ⟨b7, o7 + k, none⟩) (acc.length - k) (c7 - k)) (acc.drop k) (by simp [Act.eval]) ((SA2.out.from_ hk).below hB2) (by first | omega | (simp; done) | (simp; omega)) (by first | omega | (simp; done) | (simp; omega)) ?_; intro x3 y3 hown3 hg3; have hB9 : Below wz.heap.size wz y3 := hB2.grown hg3 hs2 (fun g hg => (hown2.lt g hg).1); have kf : y3.cell? ⟨b, o + i, none⟩ = some (.string nm) := (hB9.cell (p := ⟨b, o + i, none⟩) hbz).trans G2.out)
                | ((trace_state; fail)))
            all_goals
              have hbs := I2.out.B.size
              have HO3 := Lib.hid (show y3.ownsRow w.heap.size 9 1 x3 (acc.take k ++ [nm] ++ acc.drop k).length ((acc.take k ++ [nm] ++ acc.drop k).map Value.string) from by
                have h9 := own_le hown3 hbs
                rw [List.nil_append, ← List.map_append, ← List.map_append, Nat.zero_add, ← List.length_append, ← List.length_append] at h9
                exact h9)
              have HB3 := Lib.hid (I2.out.B.trans (hB9.mono hbs))
              clear hown1 hown2 hown3 hg1 hg2 hg3 hB1 hB2 hB9 kf
              go_wp2
              go_roundg (L.length - (i + 1))
              case measure => omega
              case rel => exact ⟨i + 1, by omega, by omega, by go_num, _, (show Aside _ from by have h9 := HAI.out; show List.length _ = _; simp only [List.length_append, List.length_take, List.length_drop, List.length_singleton] at h9 ⊢; omega), HI.out.1, HI.out.2, ⟨HB3.out, HO3.out⟩⟩
        · obtain rfl : k = acc.length := by omega
          have HI0 := Lib.hid (show Asc (acc.take acc.length ++ [nm] ++ acc.drop acc.length) ∧ ∀ x, x ∈ acc.take acc.length ++ [nm] ++ acc.drop acc.length ↔ x ∈ L.take (i + 1) from by rw [HTK.out]; exact ascOf_ins ASC.out MEM.out hk KA.out (fun h => absurd h (Nat.lt_irrefl _)))
          rcases I.out.own.2 with ⟨h7, h70⟩ | ⟨g7, cap7, cur7, h7, _, _, _, _, _, _⟩
          · obtain rfl : acc = [] := List.eq_nil_of_length_eq_zero h70
            injection h7 with e1 _ e2
            subst e1 e2
            clear h70
            have HI : Hid (Asc (([] : List ByteArray) ++ [nm] ++ ([] : List ByteArray)) ∧ ∀ x, x ∈ ([] : List ByteArray) ++ [nm] ++ ([] : List ByteArray) ↔ x ∈ L.take (i + 1)) := HI0
            go_wp2_with fail
            go_quiet (fail)
            obtain ⟨hbz, G2, I2, SA2⟩ : b < wr.heap.size ∧ Hid ((wr.drewN nq).cell? ⟨b, o + i, none⟩ = some (.string nm)) ∧ Hid (SNv w (wr.drewN nq) [] (.slice none 0 0)) ∧ Hid (Strs (wr.drewN nq) (wr.drewN nq).heap.size (.slice none 0 0) []) := ⟨Nat.lt_of_lt_of_le hb I.out.B.size, Lib.hid g0, Lib.hid (I.out.drewN nq), Lib.hid SA.out⟩
            change b < (wr.drewN nq).heap.size at hbz
            clear I SA g0 KA
            generalize wr.drewN nq = wz at *
            go_wp2_with fail
            go_region_held3 (fun y => y.cell? ⟨b, o + i, none⟩ = some (.string nm))
              (first | exact kf | exact G2.out | exact cell_al kf _ | exact cell_al G2.out _ | exact cell_al (cell_al G2.out _) _ | go_keep)
              (first
                | (refine step_append_strs (by rfl) (.tmp 29) (.tmp 32) (by rfl) wz.heap.size (.slice (some ⟨wz.heap.size, 0, none⟩) 0 0) 0 [] (by simp [Act.eval]) ((own_empty wz wz.heap.size _ 9 (Nat.le_refl _) rfl).drew) wz.heap.size (.slice none 0 0) (([] : List ByteArray)) (by simp [Act.eval]) ((SA2.out).alloc (Nat.le_refl _) _).drew (by first | omega | (simp; done) | (simp; omega)) (by first | omega | (simp; done) | (simp; omega)) ?_; intro x1 y1 hown1 hg1; have hB1 : Below wz.heap.size wz y1 := (((Below.refl _ _).alloc (Nat.le_refl _) _).drew).grown hg1 (by first | omega | (simp; done) | (simp; omega)) (fun g hg => by simp [Value.ownBlock] at hg; omega); have hs1 := hB1.size; have hq : y1.heap.size = y1.heap.size := rfl; have kf : y1.cell? ⟨b, o + i, none⟩ = some (.string nm) := (hB1.cell (p := ⟨b, o + i, none⟩) hbz).trans G2.out)
                | (refine step_append_strs (by rfl) (.tmp 29) (.tmp 32) (by rfl) wz.heap.size (.slice (some ⟨wz.heap.size, 0, none⟩) 0 0) 0 [] (by simp [Act.eval]) (((own_empty wz wz.heap.size _ 9 (Nat.le_refl _) rfl).alloc _).drew) wz.heap.size (.slice none 0 0) (([] : List ByteArray)) (by simp [Act.eval]) (((SA2.out).alloc (Nat.le_refl _) _).alloc (by first | omega | (simp; done) | (simp; omega)) _).drew (by first | omega | (simp; done) | (simp; omega)) (by first | omega | (simp; done) | (simp; omega)) ?_; intro x1 y1 hown1 hg1; have hB1 : Below wz.heap.size wz y1 := ((((Below.refl _ _).alloc (Nat.le_refl _) _).alloc (by first | omega | (simp; done) | (simp; omega)) _).drew).grown hg1 (by first | omega | (simp; done) | (simp; omega)) (fun g hg => by simp [Value.ownBlock] at hg; omega); have hs1 := hB1.size; have hq : y1.cell? ⟨wz.heap.size + 1, 0, none⟩ = some (.string nm) := cell_grown hg1 (show World.cell? ((wz.alloc (.cells #[] 9)).alloc (.cells #[.string nm] 9)) ⟨wz.heap.size + 1, 0, none⟩ = _ from by simp) (by simp [Value.ownBlock]); have kf : y1.cell? ⟨b, o + i, none⟩ = some (.string nm) := (hB1.cell (p := ⟨b, o + i, none⟩) hbz).trans G2.out)
                | (refine step_append_strs (by rfl) (.tmp 29) (.tmp 32) (by rfl) wz.heap.size (.slice (some ⟨wz.heap.size + 1, 0, none⟩) 0 0) 0 [] (by simp [Act.eval]) ((own_empty (wz.alloc (.cells #[.string nm] 9)) wz.heap.size _ 9 (by first | omega | (simp; done) | (simp; omega)) (by simp)).drew) wz.heap.size (.slice none 0 0) (([] : List ByteArray)) (by simp [Act.eval]) (((SA2.out).alloc (Nat.le_refl _) _).alloc (by first | omega | (simp; done) | (simp; omega)) _).drew (by first | omega | (simp; done) | (simp; omega)) (by first | omega | (simp; done) | (simp; omega)) ?_; intro x1 y1 hown1 hg1; have hB1 : Below wz.heap.size wz y1 := ((((Below.refl _ _).alloc (Nat.le_refl _) _).alloc (by first | omega | (simp; done) | (simp; omega)) _).drew).grown hg1 (by first | omega | (simp; done) | (simp; omega)) (fun g hg => by simp [Value.ownBlock] at hg; omega); have hs1 := hB1.size; have hq : y1.cell? ⟨wz.heap.size, 0, none⟩ = some (.string nm) := cell_grown hg1 (show World.cell? ((wz.alloc (.cells #[.string nm] 9)).alloc (.cells #[] 9)) ⟨wz.heap.size, 0, none⟩ = _ from by simp) (by simp [Value.ownBlock]); have kf : y1.cell? ⟨b, o + i, none⟩ = some (.string nm) := (hB1.cell (p := ⟨b, o + i, none⟩) hbz).trans G2.out)
                | (refine step_append_strs (by rfl) (.tmp 33) (.tmp 38) (by rfl) wz.heap.size x1 _ _ (by simp [Act.eval]) (hown1.alloc _) _ (.slice (some ⟨y1.heap.size, 0, none⟩) 1 1) [nm] (by simp [Act.eval]) (strs_one y1 _ rfl nm hnf _) (by first | omega | (simp; done) | (simp; omega)) (by first | omega | (simp; done) | (simp; omega)) ?_; intro x2 y2 hown2 hg2; have hB2 : Below wz.heap.size wz y2 := (hB1.alloc hs1 _).grown hg2 (by first | omega | (simp; done) | (simp; omega)) (fun g hg => (hown1.lt g hg).1); have hs2 := hB2.size; have kf : y2.cell? ⟨b, o + i, none⟩ = some (.string nm) := (hB2.cell (p := ⟨b, o + i, none⟩) hbz).trans G2.out)
                | (refine step_append_strs (by rfl) (.tmp 33) (.tmp 38) (by rfl) wz.heap.size x1 _ _ (by simp [Act.eval]) hown1 _ (.slice (some ⟨wz.heap.size + 1, 0, none⟩) 1 1) [nm] (by simp [Act.eval]) (strs_cell (B := wz.heap.size + 2) hq (by omega) hnf) (by first | omega | (simp; done) | (simp; omega)) (by first | omega | (simp; done) | (simp; omega)) ?_; intro x2 y2 hown2 hg2; have hB2 : Below wz.heap.size wz y2 := (hB1).grown hg2 (by first | omega | (simp; done) | (simp; omega)) (fun g hg => (hown1.lt g hg).1); have hs2 := hB2.size; have kf : y2.cell? ⟨b, o + i, none⟩ = some (.string nm) := (hB2.cell (p := ⟨b, o + i, none⟩) hbz).trans G2.out)
                | (refine step_append_strs (by rfl) (.tmp 33) (.tmp 38) (by rfl) wz.heap.size x1 _ _ (by simp [Act.eval]) hown1 _ (.slice (some ⟨wz.heap.size, 0, none⟩) 1 1) [nm] (by simp [Act.eval]) (strs_cell (B := wz.heap.size + 2) hq (by omega) hnf) (by first | omega | (simp; done) | (simp; omega)) (by first | omega | (simp; done) | (simp; omega)) ?_; intro x2 y2 hown2 hg2; have hB2 : Below wz.heap.size wz y2 := (hB1).grown hg2 (by first | omega | (simp; done) | (simp; omega)) (fun g hg => (hown1.lt g hg).1); have hs2 := hB2.size; have kf : y2.cell? ⟨b, o + i, none⟩ = some (.string nm) := (hB2.cell (p := ⟨b, o + i, none⟩) hbz).trans G2.out)
                | (refine step_append_strs (by rfl) (.tmp 39) (.tmp 42) (by rfl) wz.heap.size x2 _ _ (by simp [Act.eval]) hown2 wz.heap.size (.slice none 0 0) (([] : List ByteArray)) (by simp [Act.eval]) (Strs.empty _ _ _ _) (by first | omega | (simp; done) | (simp; omega)) (by first | omega | (simp; done) | (simp; omega)) ?_; intro x3 y3 hown3 hg3; have hB9 : Below wz.heap.size wz y3 := hB2.grown hg3 hs2 (fun g hg => (hown2.lt g hg).1); have kf : y3.cell? ⟨b, o + i, none⟩ = some (.string nm) := (hB9.cell (p := ⟨b, o + i, none⟩) hbz).trans G2.out)
                | ((trace_state; fail)))
            all_goals
              have hbs := I2.out.B.size
              have HO3 := Lib.hid (show y3.ownsRow w.heap.size 9 1 x3 (([] : List ByteArray) ++ [nm] ++ ([] : List ByteArray)).length ((([] : List ByteArray) ++ [nm] ++ ([] : List ByteArray)).map Value.string) from by
                have h9 := own_le hown3 hbs
                rw [List.nil_append, ← List.map_append, ← List.map_append, Nat.zero_add, ← List.length_append, ← List.length_append] at h9
                exact h9)
              have HB3 := Lib.hid (I2.out.B.trans (hB9.mono hbs))
              clear hown1 hown2 hown3 hg1 hg2 hg3 hB1 hB2 hB9 kf
              go_wp2
              go_roundg (L.length - (i + 1))
              case measure => omega
              case rel => exact ⟨i + 1, by omega, by omega, by go_num, _, (show Aside _ from by have h9 := HAI.out; show List.length _ = _; simp only [List.length_append, List.length_singleton, List.length_nil] at h9 ⊢; omega), HI.out.1, HI.out.2, ⟨HB3.out, HO3.out⟩⟩
          · injection h7 with e1 _ e2
            subst e1 e2
            have HI := HI0
            clear HI0
            have hlc2 : (acc.length : Int) ≤ (c7 : Int) := by omega
            go_wp2_with fail
            go_quiet (fail)
            obtain ⟨hbz, G2, I2, SA2⟩ : b < wr.heap.size ∧ Hid ((wr.drewN nq).cell? ⟨b, o + i, none⟩ = some (.string nm)) ∧ Hid (SNv w (wr.drewN nq) acc (.slice (some ⟨g7, 0, none⟩) acc.length c7)) ∧ Hid (Strs (wr.drewN nq) (wr.drewN nq).heap.size (.slice (some ⟨g7, 0, none⟩) acc.length c7) acc) := ⟨Nat.lt_of_lt_of_le hb I.out.B.size, Lib.hid g0, Lib.hid (I.out.drewN nq), Lib.hid SA.out⟩
            change b < (wr.drewN nq).heap.size at hbz
            clear I SA g0 KA
            generalize wr.drewN nq = wz at *
            by_cases hck : c7 = acc.length
            · subst hck
              go_wp2_with fail
              go_region_held3 (fun y => y.cell? ⟨b, o + i, none⟩ = some (.string nm))
                (first | exact kf | exact G2.out | exact cell_al kf _ | exact cell_al G2.out _ | exact cell_al (cell_al G2.out _) _ | go_keep)
                (first
                  | (refine step_append_strs (by rfl) (.tmp 29) (.tmp 32) (by rfl) wz.heap.size (.slice (some ⟨wz.heap.size, 0, none⟩) 0 0) 0 [] (by simp [Act.eval]) ((own_empty wz wz.heap.size _ 9 (Nat.le_refl _) rfl).drew) wz.heap.size (.slice (some ⟨g7, 0, none⟩) acc.length acc.length) (acc.take acc.length) (by simp [Act.eval]) ((SA2.out.cut (Nat.le_refl _)).alloc (Nat.le_refl _) _).drew (by first | omega | (simp; done) | (simp; omega)) (by first | omega | (simp; done) | (simp; omega)) ?_; intro x1 y1 hown1 hg1; have hB1 : Below wz.heap.size wz y1 := (((Below.refl _ _).alloc (Nat.le_refl _) _).drew).grown hg1 (by first | omega | (simp; done) | (simp; omega)) (fun g hg => by simp [Value.ownBlock] at hg; omega); have hs1 := hB1.size; have hq : y1.heap.size = y1.heap.size := rfl; have kf : y1.cell? ⟨b, o + i, none⟩ = some (.string nm) := (hB1.cell (p := ⟨b, o + i, none⟩) hbz).trans G2.out)
                  | (refine step_append_strs (by rfl) (.tmp 29) (.tmp 32) (by rfl) wz.heap.size (.slice (some ⟨wz.heap.size, 0, none⟩) 0 0) 0 [] (by simp [Act.eval]) (((own_empty wz wz.heap.size _ 9 (Nat.le_refl _) rfl).alloc _).drew) wz.heap.size (.slice (some ⟨g7, 0, none⟩) acc.length acc.length) (acc.take acc.length) (by simp [Act.eval]) (((SA2.out.cut (Nat.le_refl _)).alloc (Nat.le_refl _) _).alloc (by first | omega | (simp; done) | (simp; omega)) _).drew (by first | omega | (simp; done) | (simp; omega)) (by first | omega | (simp; done) | (simp; omega)) ?_; intro x1 y1 hown1 hg1; have hB1 : Below wz.heap.size wz y1 := ((((Below.refl _ _).alloc (Nat.le_refl _) _).alloc (by first | omega | (simp; done) | (simp; omega)) _).drew).grown hg1 (by first | omega | (simp; done) | (simp; omega)) (fun g hg => by simp [Value.ownBlock] at hg; omega); have hs1 := hB1.size; have hq : y1.cell? ⟨wz.heap.size + 1, 0, none⟩ = some (.string nm) := cell_grown hg1 (show World.cell? ((wz.alloc (.cells #[] 9)).alloc (.cells #[.string nm] 9)) ⟨wz.heap.size + 1, 0, none⟩ = _ from by simp) (by simp [Value.ownBlock]); have kf : y1.cell? ⟨b, o + i, none⟩ = some (.string nm) := (hB1.cell (p := ⟨b, o + i, none⟩) hbz).trans G2.out)
                  | (refine step_append_strs (by rfl) (.tmp 29) (.tmp 32) (by rfl) wz.heap.size (.slice (some ⟨wz.heap.size + 1, 0, none⟩) 0 0) 0 [] (by simp [Act.eval]) ((own_empty (wz.alloc (.cells #[.string nm] 9)) wz.heap.size _ 9 (by first | omega | (simp; done) | (simp; omega)) (by simp)).drew) wz.heap.size (.slice (some ⟨g7, 0, none⟩) acc.length acc.length) (acc.take acc.length) (by simp [Act.eval]) (((SA2.out.cut (Nat.le_refl _)).alloc (Nat.le_refl _) _).alloc (by first | omega | (simp; done) | (simp; omega)) _).drew (by first | omega | (simp; done) | (simp; omega)) (by first | omega | (simp; done) | (simp; omega)) ?_; intro x1 y1 hown1 hg1; have hB1 : Below wz.heap.size wz y1 := ((((Below.refl _ _).alloc (Nat.le_refl _) _).alloc (by first | omega | (simp; done) | (simp; omega)) _).drew).grown hg1 (by first | omega | (simp; done) | (simp; omega)) (fun g hg => by simp [Value.ownBlock] at hg; omega); have hs1 := hB1.size; have hq : y1.cell? ⟨wz.heap.size, 0, none⟩ = some (.string nm) := cell_grown hg1 (show World.cell? ((wz.alloc (.cells #[.string nm] 9)).alloc (.cells #[] 9)) ⟨wz.heap.size, 0, none⟩ = _ from by simp) (by simp [Value.ownBlock]); have kf : y1.cell? ⟨b, o + i, none⟩ = some (.string nm) := (hB1.cell (p := ⟨b, o + i, none⟩) hbz).trans G2.out)
                  | (refine step_append_strs (by rfl) (.tmp 33) (.tmp 38) (by rfl) wz.heap.size x1 _ _ (by simp [Act.eval]) (hown1.alloc _) _ (.slice (some ⟨y1.heap.size, 0, none⟩) 1 1) [nm] (by simp [Act.eval]) (strs_one y1 _ rfl nm hnf _) (by first | omega | (simp; done) | (simp; omega)) (by first | omega | (simp; done) | (simp; omega)) ?_; intro x2 y2 hown2 hg2; have hB2 : Below wz.heap.size wz y2 := (hB1.alloc hs1 _).grown hg2 (by first | omega | (simp; done) | (simp; omega)) (fun g hg => (hown1.lt g hg).1); have hs2 := hB2.size; have kf : y2.cell? ⟨b, o + i, none⟩ = some (.string nm) := (hB2.cell (p := ⟨b, o + i, none⟩) hbz).trans G2.out)
                  | (refine step_append_strs (by rfl) (.tmp 33) (.tmp 38) (by rfl) wz.heap.size x1 _ _ (by simp [Act.eval]) hown1 _ (.slice (some ⟨wz.heap.size + 1, 0, none⟩) 1 1) [nm] (by simp [Act.eval]) (strs_cell (B := wz.heap.size + 2) hq (by omega) hnf) (by first | omega | (simp; done) | (simp; omega)) (by first | omega | (simp; done) | (simp; omega)) ?_; intro x2 y2 hown2 hg2; have hB2 : Below wz.heap.size wz y2 := (hB1).grown hg2 (by first | omega | (simp; done) | (simp; omega)) (fun g hg => (hown1.lt g hg).1); have hs2 := hB2.size; have kf : y2.cell? ⟨b, o + i, none⟩ = some (.string nm) := (hB2.cell (p := ⟨b, o + i, none⟩) hbz).trans G2.out)
                  | (refine step_append_strs (by rfl) (.tmp 33) (.tmp 38) (by rfl) wz.heap.size x1 _ _ (by simp [Act.eval]) hown1 _ (.slice (some ⟨wz.heap.size, 0, none⟩) 1 1) [nm] (by simp [Act.eval]) (strs_cell (B := wz.heap.size + 2) hq (by omega) hnf) (by first | omega | (simp; done) | (simp; omega)) (by first | omega | (simp; done) | (simp; omega)) ?_; intro x2 y2 hown2 hg2; have hB2 : Below wz.heap.size wz y2 := (hB1).grown hg2 (by first | omega | (simp; done) | (simp; omega)) (fun g hg => (hown1.lt g hg).1); have hs2 := hB2.size; have kf : y2.cell? ⟨b, o + i, none⟩ = some (.string nm) := (hB2.cell (p := ⟨b, o + i, none⟩) hbz).trans G2.out)
                  | (refine step_append_strs (by rfl) (.tmp 39) (.tmp 42) (by rfl) wz.heap.size x2 _ _ (by simp [Act.eval]) hown2 wz.heap.size (.slice (some ⟨g7, 0, none⟩) 0 0) (acc.drop acc.length) (by simp [Act.eval]) (by rw [List.drop_length]; exact Strs.empty _ _ _ _) (by first | omega | (simp; done) | (simp; omega)) (by first | omega | (simp; done) | (simp; omega)) ?_; intro x3 y3 hown3 hg3; have hB9 : Below wz.heap.size wz y3 := hB2.grown hg3 hs2 (fun g hg => (hown2.lt g hg).1); have kf : y3.cell? ⟨b, o + i, none⟩ = some (.string nm) := (hB9.cell (p := ⟨b, o + i, none⟩) hbz).trans G2.out)
                  | ((trace_state; fail)))
              all_goals
                have hbs := I2.out.B.size
                have HO3 := Lib.hid (show y3.ownsRow w.heap.size 9 1 x3 (acc.take acc.length ++ [nm] ++ acc.drop acc.length).length ((acc.take acc.length ++ [nm] ++ acc.drop acc.length).map Value.string) from by
                  have h9 := own_le hown3 hbs
                  rw [List.nil_append, ← List.map_append, ← List.map_append, Nat.zero_add, ← List.length_append, ← List.length_append] at h9
                  exact h9)
                have HB3 := Lib.hid (I2.out.B.trans (hB9.mono hbs))
                clear hown1 hown2 hown3 hg1 hg2 hg3 hB1 hB2 hB9 kf
                go_wp2
                go_roundg (L.length - (i + 1))
                case measure => omega
                case rel => exact ⟨i + 1, by omega, by omega, by go_num, _, (show Aside _ from by have h9 := HAI.out; show List.length _ = _; simp only [List.length_append, List.length_take, List.length_drop, List.length_singleton] at h9 ⊢; omega), HI.out.1, HI.out.2, ⟨HB3.out, HO3.out⟩⟩
            · go_wp2_with fail
              go_region_held3 (fun y => y.cell? ⟨b, o + i, none⟩ = some (.string nm))
                (first | exact kf | exact G2.out | exact cell_al kf _ | exact cell_al G2.out _ | exact cell_al (cell_al G2.out _) _ | go_keep)
                (first
                  | (refine step_append_strs (by rfl) (.tmp 29) (.tmp 32) (by rfl) wz.heap.size (.slice (some ⟨wz.heap.size, 0, none⟩) 0 0) 0 [] (by simp [Act.eval]) ((own_empty wz wz.heap.size _ 9 (Nat.le_refl _) rfl).drew) wz.heap.size (.slice (some ⟨g7, 0, none⟩) acc.length c7) (acc.take acc.length) (by simp [Act.eval]) ((SA2.out.cut (Nat.le_refl _)).alloc (Nat.le_refl _) _).drew (by first | omega | (simp; done) | (simp; omega)) (by first | omega | (simp; done) | (simp; omega)) ?_; intro x1 y1 hown1 hg1; have hB1 : Below wz.heap.size wz y1 := (((Below.refl _ _).alloc (Nat.le_refl _) _).drew).grown hg1 (by first | omega | (simp; done) | (simp; omega)) (fun g hg => by simp [Value.ownBlock] at hg; omega); have hs1 := hB1.size; have hq : y1.heap.size = y1.heap.size := rfl; have kf : y1.cell? ⟨b, o + i, none⟩ = some (.string nm) := (hB1.cell (p := ⟨b, o + i, none⟩) hbz).trans G2.out)
                  | (refine step_append_strs (by rfl) (.tmp 29) (.tmp 32) (by rfl) wz.heap.size (.slice (some ⟨wz.heap.size, 0, none⟩) 0 0) 0 [] (by simp [Act.eval]) (((own_empty wz wz.heap.size _ 9 (Nat.le_refl _) rfl).alloc _).drew) wz.heap.size (.slice (some ⟨g7, 0, none⟩) acc.length c7) (acc.take acc.length) (by simp [Act.eval]) (((SA2.out.cut (Nat.le_refl _)).alloc (Nat.le_refl _) _).alloc (by first | omega | (simp; done) | (simp; omega)) _).drew (by first | omega | (simp; done) | (simp; omega)) (by first | omega | (simp; done) | (simp; omega)) ?_; intro x1 y1 hown1 hg1; have hB1 : Below wz.heap.size wz y1 := ((((Below.refl _ _).alloc (Nat.le_refl _) _).alloc (by first | omega | (simp; done) | (simp; omega)) _).drew).grown hg1 (by first | omega | (simp; done) | (simp; omega)) (fun g hg => by simp [Value.ownBlock] at hg; omega); have hs1 := hB1.size; have hq : y1.cell? ⟨wz.heap.size + 1, 0, none⟩ = some (.string nm) := cell_grown hg1 (show World.cell? ((wz.alloc (.cells #[] 9)).alloc (.cells #[.string nm] 9)) ⟨wz.heap.size + 1, 0, none⟩ = _ from by simp) (by simp [Value.ownBlock]); have kf : y1.cell? ⟨b, o + i, none⟩ = some (.string nm) := (hB1.cell (p := ⟨b, o + i, none⟩) hbz).trans G2.out)
                  | (refine step_append_strs (by rfl) (.tmp 29) (.tmp 32) (by rfl) wz.heap.size (.slice (some ⟨wz.heap.size + 1, 0, none⟩) 0 0) 0 [] (by simp [Act.eval]) ((own_empty (wz.alloc (.cells #[.string nm] 9)) wz.heap.size _ 9 (by first | omega | (simp; done) | (simp; omega)) (by simp)).drew) wz.heap.size (.slice (some ⟨g7, 0, none⟩) acc.length c7) (acc.take acc.length) (by simp [Act.eval]) (((SA2.out.cut (Nat.le_refl _)).alloc (Nat.le_refl _) _).alloc (by first | omega | (simp; done) | (simp; omega)) _).drew (by first | omega | (simp; done) | (simp; omega)) (by first | omega | (simp; done) | (simp; omega)) ?_; intro x1 y1 hown1 hg1; have hB1 : Below wz.heap.size wz y1 := ((((Below.refl _ _).alloc (Nat.le_refl _) _).alloc (by first | omega | (simp; done) | (simp; omega)) _).drew).grown hg1 (by first | omega | (simp; done) | (simp; omega)) (fun g hg => by simp [Value.ownBlock] at hg; omega); have hs1 := hB1.size; have hq : y1.cell? ⟨wz.heap.size, 0, none⟩ = some (.string nm) := cell_grown hg1 (show World.cell? ((wz.alloc (.cells #[.string nm] 9)).alloc (.cells #[] 9)) ⟨wz.heap.size, 0, none⟩ = _ from by simp) (by simp [Value.ownBlock]); have kf : y1.cell? ⟨b, o + i, none⟩ = some (.string nm) := (hB1.cell (p := ⟨b, o + i, none⟩) hbz).trans G2.out)
                  | (refine step_append_strs (by rfl) (.tmp 33) (.tmp 38) (by rfl) wz.heap.size x1 _ _ (by simp [Act.eval]) (hown1.alloc _) _ (.slice (some ⟨y1.heap.size, 0, none⟩) 1 1) [nm] (by simp [Act.eval]) (strs_one y1 _ rfl nm hnf _) (by first | omega | (simp; done) | (simp; omega)) (by first | omega | (simp; done) | (simp; omega)) ?_; intro x2 y2 hown2 hg2; have hB2 : Below wz.heap.size wz y2 := (hB1.alloc hs1 _).grown hg2 (by first | omega | (simp; done) | (simp; omega)) (fun g hg => (hown1.lt g hg).1); have hs2 := hB2.size; have kf : y2.cell? ⟨b, o + i, none⟩ = some (.string nm) := (hB2.cell (p := ⟨b, o + i, none⟩) hbz).trans G2.out)
                  | (refine step_append_strs (by rfl) (.tmp 33) (.tmp 38) (by rfl) wz.heap.size x1 _ _ (by simp [Act.eval]) hown1 _ (.slice (some ⟨wz.heap.size + 1, 0, none⟩) 1 1) [nm] (by simp [Act.eval]) (strs_cell (B := wz.heap.size + 2) hq (by omega) hnf) (by first | omega | (simp; done) | (simp; omega)) (by first | omega | (simp; done) | (simp; omega)) ?_; intro x2 y2 hown2 hg2; have hB2 : Below wz.heap.size wz y2 := (hB1).grown hg2 (by first | omega | (simp; done) | (simp; omega)) (fun g hg => (hown1.lt g hg).1); have hs2 := hB2.size; have kf : y2.cell? ⟨b, o + i, none⟩ = some (.string nm) := (hB2.cell (p := ⟨b, o + i, none⟩) hbz).trans G2.out)
                  | (refine step_append_strs (by rfl) (.tmp 33) (.tmp 38) (by rfl) wz.heap.size x1 _ _ (by simp [Act.eval]) hown1 _ (.slice (some ⟨wz.heap.size, 0, none⟩) 1 1) [nm] (by simp [Act.eval]) (strs_cell (B := wz.heap.size + 2) hq (by omega) hnf) (by first | omega | (simp; done) | (simp; omega)) (by first | omega | (simp; done) | (simp; omega)) ?_; intro x2 y2 hown2 hg2; have hB2 : Below wz.heap.size wz y2 := (hB1).grown hg2 (by first | omega | (simp; done) | (simp; omega)) (fun g hg => (hown1.lt g hg).1); have hs2 := hB2.size; have kf : y2.cell? ⟨b, o + i, none⟩ = some (.string nm) := (hB2.cell (p := ⟨b, o + i, none⟩) hbz).trans G2.out)
                  | (refine step_append_strs (by rfl) (.tmp 39) (.tmp 42) (by rfl) wz.heap.size x2 _ _ (by simp [Act.eval]) hown2 wz.heap.size (.slice (some ⟨g7, acc.length, none⟩) 0 (c7 - acc.length)) (acc.drop acc.length) (by simp [Act.eval]) (by rw [List.drop_length]; exact Strs.empty _ _ _ _) (by first | omega | (simp; done) | (simp; omega)) (by first | omega | (simp; done) | (simp; omega)) ?_; intro x3 y3 hown3 hg3; have hB9 : Below wz.heap.size wz y3 := hB2.grown hg3 hs2 (fun g hg => (hown2.lt g hg).1); have kf : y3.cell? ⟨b, o + i, none⟩ = some (.string nm) := (hB9.cell (p := ⟨b, o + i, none⟩) hbz).trans G2.out)
                  | ((trace_state; fail)))
              all_goals
                have hbs := I2.out.B.size
                have HO3 := Lib.hid (show y3.ownsRow w.heap.size 9 1 x3 (acc.take acc.length ++ [nm] ++ acc.drop acc.length).length ((acc.take acc.length ++ [nm] ++ acc.drop acc.length).map Value.string) from by
                  have h9 := own_le hown3 hbs
                  rw [List.nil_append, ← List.map_append, ← List.map_append, Nat.zero_add, ← List.length_append, ← List.length_append] at h9
                  exact h9)
                have HB3 := Lib.hid (I2.out.B.trans (hB9.mono hbs))
                clear hown1 hown2 hown3 hg1 hg2 hg3 hB1 hB2 hB9 kf
                go_wp2
                go_roundg (L.length - (i + 1))
                case measure => omega
                case rel => exact ⟨i + 1, by omega, by omega, by go_num, _, (show Aside _ from by have h9 := HAI.out; show List.length _ = _; simp only [List.length_append, List.length_take, List.length_drop, List.length_singleton] at h9 ⊢; omega), HI.out.1, HI.out.2, ⟨HB3.out, HO3.out⟩⟩
    · obtain rfl : i = L.length := by omega
      have SE := Lib.hid (strs_row I.out.own AF.out (by omega))
      have HLO := Lib.hid (own_low I.out.own)
      have HM := Lib.hid (show AscOf acc L from ⟨ASC.out, fun x => by have := MEM.out x; rwa [List.take_length] at this⟩)
      go_wp2
      go_ret
      exact ⟨_, _, rfl, HM.out, SE.out, HLO.out, I.out.B⟩

end Go.Proofs.YtoeiaffkedkepaaGreatDoor

/- The reference's PathsOf at every valid tree: the wanted paths in ascending order. Conditions: the tree's cells lie in memory as they read. -/
namespace Go.Proofs.YtoeiaffkedkepaaGreatDoor
open Go.RowKit

theorem pathsW_take {want : Nat → Bool} {L : List Vis} {j : Nat} (h : j < L.length) : pathsW want (L.take (j + 1)) = if want (L.getD j V0).2 = true then pathsW want (L.take j) ++ [bP (L.getD j V0).1] else pathsW want (L.take j) := by
  rw [List.take_succ_eq_append_getElem h, pathsW_snoc, visD h]
/-- What holds while the paths are gathered. -/
structure PR (w wr : World) (rv : Value) (L : List Vis) (want : Nat → Bool) (j : Nat) (v : Value) : Prop where
  b : Below w.heap.size w wr
  vs : Vs wr w.heap.size rv L
  own : wr.ownsRow w.heap.size 9 1 v (pathsW want (L.take j)).length ((pathsW want (L.take j)).map Value.string)

set_option maxRecDepth 100000 in
set_option maxHeartbeats 3200000 in
theorem refPathsOf_any (a : Option Addr) (c : Nat) (t : Tr) (n : Int) (w : World) (o1 : Ok1 t) (fr : From t 0) (h : Nods w w.heap.size a c t) :
    Calls Tryz.prog 10 #[.agg #[.slice a t.length c], .int .i64 n] w (SortPost (pathsW (fun m => (m : Int) == n || decide (n < 0)) (visits t 0)) w) := by
  have D := Lib.hid (fun W (hb : Below w.heap.size w W) => routes_any a c t 0 W o1 fr (h.up hb))
  have HN := Lib.hid (fun (want : Nat → Bool) L (hL : (visits t 0).Perm L) => pathsW_nodup o1 fr want hL)
  have HFT := Lib.hid (fun (want : Nat → Bool) L (hL : (visits t 0).Perm L) => pathsW_fits o1 fr (want := want) hL)
  have hl6 := len_visits o1 fr
  clear o1 fr h
  go_enter Tryz.func10, Tryz.ntmps10
  go_wp2_with fail
  refine (D.out _ ((Below.refl _ _).alloc (Nat.le_refl _) _)).mono ?_
  rintro e w2 ⟨v, L, rfl, hvs, hperm, _, b2⟩
  have B2 := Lib.hid (show Below w.heap.size w w2 from ((Below.refl _ _).alloc (Nat.le_refl _) _).trans (b2.mono (by first | omega | (simp; done) | (simp; omega))))
  have hLl : L.length ≤ 641 := by rw [← hperm.length_eq]; exact hl6
  have HN2 := Lib.hid (HN.out (fun m => (m : Int) == n || decide (n < 0)) L hperm)
  have HF2 := Lib.hid (HFT.out (fun m => (m : Int) == n || decide (n < 0)) L hperm)
  have HM := Lib.hid (fun x => pathsW_mem (want := fun m => (m : Int) == n || decide (n < 0)) hperm x)
  have HW := Lib.hid (show ∀ m : Nat, (fun m : Nat => (m : Int) == n || decide (n < 0)) m = ((m : Int) == n || decide (n < 0)) from fun _ => rfl)
  have V5 := Lib.hid hvs
  obtain ⟨rb, rc, rfl, hrc, hL0, hrb, _⟩ := hvs
  clear b2 hperm D HN HFT
  have X0 := Lib.hid (show PR w2 w2 (.slice (some ⟨rb, 0, none⟩) L.length rc) L (fun m => (m : Int) == n || decide (n < 0)) 0 (.slice none 0 0) from ⟨Below.refl _ _, V5.out, by rw [List.take_zero]; exact ⟨rfl, .inl ⟨rfl, rfl⟩⟩⟩)
  generalize hwt : (fun m : Nat => (m : Int) == n || decide (n < 0)) = want at *
  have HWT := Lib.hid hwt
  clear hwt
  go_wp2_with fail
  go_loopg [5, 7] L.length (fun gg s5 s7 wr => ∃ j : Nat, j ≤ L.length ∧ L.length - j ≤ gg ∧ s7 = .int .i64 j ∧ Aside (PR w2 wr (.slice (some ⟨rb, 0, none⟩) L.length rc) L want j s5))
  case atStart => exact ⟨0, by omega, by omega, rfl, X0.out⟩
  case round =>
    obtain ⟨j, hj, hg, rfl, X⟩ := hrel
    clear X0
    by_cases hlt : j < L.length
    · have hltz : (j : Int) < (L.length : Int) := by omega
      have hj0 : (0 : Int) ≤ (j : Int) := Int.natCast_nonneg _
      have hm9 : L.length - (j + 1) < L.length - j := Nat.sub_lt_sub_left hlt (Nat.lt_succ_self j)
      obtain ⟨_, r0, _, r2⟩ := X.out.vs.cell hlt
      have HT := Lib.hid (pathsW_take (want := want) hlt)
      have hW := HW.out (L.getD j V0).2
      have hpl := pathsW_len want (L.take j)
      rw [List.length_take] at hpl
      generalize L.getD j V0 = p at *
      obtain ⟨xs, m⟩ := p
      simp only at r0 r2 HT hW
      cases hmb : ((m : Int) == n) with
      | true =>
        have hwm : want m = true := by rw [hW, hmb]; rfl
        have HT2 := Lib.hid (show pathsW want (L.take (j + 1)) = pathsW want (L.take j) ++ [bP xs] from by rw [HT.out, if_pos hwm])
        clear hW hwm HT
        go_wp2_with (at_builtin; refine wpList_put1 rfl (.tmp 27) (.tmp 33) rfl w2.heap.size u5 _ _ rfl (own_below X.out.own ((Below.refl wr.heap.size wr).alloc (Nat.le_refl _) _)) wr.heap.size (bP xs) rfl (by simp) (by omega) (by have := X.out.b.size; first | omega | (simp; omega)) ?_; intro g1 cap1 W4 P1)
        have XX := Lib.hid (show PR w2 W4 (.slice (some ⟨rb, 0, none⟩) L.length rc) L want (j + 1) (.slice (some ⟨g1, 0, none⟩) ((pathsW want (L.take j)).length + 1) cap1) from by
          have hb : Below w2.heap.size wr W4 := ((Below.refl _ _).alloc X.out.b.size _).grown P1.grown (by have := X.out.b.size; first | omega | (simp; omega)) (fun q hq => own_low X.out.own q hq)
          refine ⟨X.out.b.trans hb, X.out.vs.below hb, ?_⟩
          rw [HT2.out, List.length_append, List.map_append]
          exact P1.own)
        clear P1
        go_wp2_with fail
        go_roundg (L.length - (j + 1))
        case measure => exact Nat.lt_of_lt_of_le hm9 hg
        case rel => exact ⟨j + 1, by omega, by omega, by go_num, XX.out⟩
      | false =>
        by_cases hn0 : n < 0
        · have hwm : want m = true := by rw [hW, hmb, decide_eq_true hn0]; rfl
          have HT2 := Lib.hid (show pathsW want (L.take (j + 1)) = pathsW want (L.take j) ++ [bP xs] from by rw [HT.out, if_pos hwm])
          clear hW hwm HT
          go_wp2_with (at_builtin; refine wpList_put1 rfl (.tmp 27) (.tmp 33) rfl w2.heap.size u5 _ _ rfl (own_below X.out.own ((Below.refl wr.heap.size wr).alloc (Nat.le_refl _) _)) wr.heap.size (bP xs) rfl (by simp) (by omega) (by have := X.out.b.size; first | omega | (simp; omega)) ?_; intro g1 cap1 W4 P1)
          have XX := Lib.hid (show PR w2 W4 (.slice (some ⟨rb, 0, none⟩) L.length rc) L want (j + 1) (.slice (some ⟨g1, 0, none⟩) ((pathsW want (L.take j)).length + 1) cap1) from by
            have hb : Below w2.heap.size wr W4 := ((Below.refl _ _).alloc X.out.b.size _).grown P1.grown (by have := X.out.b.size; first | omega | (simp; omega)) (fun q hq => own_low X.out.own q hq)
            refine ⟨X.out.b.trans hb, X.out.vs.below hb, ?_⟩
            rw [HT2.out, List.length_append, List.map_append]
            exact P1.own)
          clear P1
          go_wp2_with fail
          go_roundg (L.length - (j + 1))
          case measure => exact Nat.lt_of_lt_of_le hm9 hg
          case rel => exact ⟨j + 1, by omega, by omega, by go_num, XX.out⟩
        · have hnb : decide (n < 0) = false := by rw [decide_eq_false_iff_not]; exact hn0
          have hwm : want m = false := by rw [hW, hmb, hnb]; rfl
          have HT2 := Lib.hid (show pathsW want (L.take (j + 1)) = pathsW want (L.take j) from by rw [HT.out, if_neg (by rw [hwm]; simp)])
          clear hW hwm HT hn0
          have XX := Lib.hid (show PR w2 wr (.slice (some ⟨rb, 0, none⟩) L.length rc) L want (j + 1) u5 from ⟨X.out.b, X.out.vs, by rw [HT2.out]; exact X.out.own⟩)
          go_wp2_with fail
          go_roundg (L.length - (j + 1))
          case measure => exact Nat.lt_of_lt_of_le hm9 hg
          case rel => exact ⟨j + 1, by omega, by omega, by go_num, XX.out⟩
    · obtain rfl : j = L.length := by omega
      have hO := X.out.own
      rw [List.take_length] at hO
      have hpl := pathsW_len want L
      have BB := Lib.hid X.out.b
      have hbs := X.out.b.size
      have hb2 := B2.out.size
      have HSO := Lib.hid (sortStrings_any u5 (pathsW want L) wr (strs_row hO HF2.out (by omega)) HN2.out (by omega))
      unfold SortPost at HSO
      clear hO X
      go_wp2_with fail
      refine HSO.out.mono ?_
      rintro e w9 ⟨v9, P, rfl, ha, hs, hlow, b9⟩
      have FIN := Lib.hid (show SortPost (pathsW want (visits t 0)) w (.returned v9) w9 from ⟨v9, P, rfl, ⟨ha.1, fun x => (ha.2 x).trans (HM.out x).symm⟩, hs, fun q hq => by have := hlow q hq; omega, (B2.out.trans (BB.out.mono hb2)).trans (b9.mono (by omega))⟩)
      clear ha hs hlow b9 HSO
      go_wp2
      go_ret
      have hfin := FIN.out
      rw [← HWT.out] at hfin
      exact hfin

end Go.Proofs.YtoeiaffkedkepaaGreatDoor
