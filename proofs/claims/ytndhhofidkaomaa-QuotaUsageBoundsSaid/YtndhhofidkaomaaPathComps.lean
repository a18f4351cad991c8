/- checkComponents at every slice of strings: the number of the first component that is no name, or too many components. Conditions: the slice's cells lie in memory as they read; each string is of at most the model's longest length. -/
import Derived.Test.YtndhhofidkaomaaPathName
import Derived.Deep.LoopGhost
import Derived.Deep.Draws

set_option linter.all false
namespace Go.Proofs.Ytndhhofidkaomaa
open Go.RowKit

/-- The slice value v reads as the strings xs, all of it below block B. -/
def Strs (w : World) (B : Nat) (v : Value) (xs : List ByteArray) : Prop :=
  ∃ a c, v = .slice a xs.length c ∧ xs.length ≤ c ∧ xs.length ≤ 35184372088832 ∧ (∀ x ∈ xs, x.size ≤ maxLen) ∧
    (0 < xs.length → ∃ b o, a = some ⟨b, o, none⟩ ∧ b < B ∧ ∀ j, j < xs.length → w.cell? ⟨b, o + j, none⟩ = some (.string (xs.getD j ByteArray.empty)))
theorem Strs.below {w w' : World} {B : Nat} {v : Value} {xs : List ByteArray} (h : Strs w B v xs) (hb : Below B w w') : Strs w' B v xs := by
  obtain ⟨a, c, hv, hc, hl, hs, hx⟩ := h
  refine ⟨a, c, hv, hc, hl, hs, fun h0 => ?_⟩
  obtain ⟨b, o, ha, hB, hj⟩ := hx h0
  exact ⟨b, o, ha, hB, fun j h => (hb.cell (p := ⟨b, o + j, none⟩) hB).trans (hj j h)⟩
theorem Strs.more {w : World} {B B' : Nat} {v : Value} {xs : List ByteArray} (h : Strs w B v xs) (hB : B ≤ B') : Strs w B' v xs := by
  obtain ⟨a, c, hv, hc, hl, hs, hx⟩ := h
  refine ⟨a, c, hv, hc, hl, hs, fun h0 => ?_⟩
  obtain ⟨b, o, ha, hb, hj⟩ := hx h0
  exact ⟨b, o, ha, by omega, hj⟩

theorem Strs.set {w : World} {B g o n c : Nat} {xs : List ByteArray} (h : Strs w B (.slice (some ⟨g, o, none⟩) n c) xs) {p : Addr} (hp : g ≠ p.block) (u : Value) : Strs (w.setCell p u) B (.slice (some ⟨g, o, none⟩) n c) xs := by
  obtain ⟨a, c', hv, hc, hl, hs, hx⟩ := h
  refine ⟨a, c', hv, hc, hl, hs, fun h0 => ?_⟩
  obtain ⟨b, o', ha, hB, hj⟩ := hx h0
  subst ha
  injection hv with h1
  injection h1 with h1
  injection h1 with h1 h2
  subst h1
  exact ⟨_, _, rfl, hB, fun j hjl => (World.cell?_setCell_other w p _ u (fun e => hp (by rw [e]))).trans (hj j hjl)⟩
theorem Strs.alloc {w : World} {B : Nat} {v : Value} {xs : List ByteArray} (h : Strs w B v xs) (hB : B ≤ w.heap.size) (o : Obj) : Strs (w.alloc o) B v xs :=
  h.below ((Below.refl B w).alloc hB o)

/-- The place of the first string that is no name, or the number of strings. -/
def firstBad (xs : List ByteArray) : Nat := xs.findIdx fun x => !vname x
theorem firstBad_hit {xs : List ByteArray} {k : Nat} (hk : k < xs.length) (hb : vname (xs.getD k ByteArray.empty) = false) (hA : ∀ j, j < k → vname (xs.getD j ByteArray.empty) = true) : firstBad xs = k := by
  unfold firstBad
  rw [List.findIdx_eq hk]
  have e : ∀ j, (h : j < xs.length) → xs.getD j ByteArray.empty = xs[j] := fun j h => by rw [List.getD_eq_getElem?_getD, List.getElem?_eq_getElem h]; rfl
  refine ⟨by rw [← e k hk, hb]; rfl, fun j hj => ?_⟩
  rw [← e j (by omega), hA j hj]; rfl
theorem firstBad_miss {xs : List ByteArray} (hA : ∀ j, j < xs.length → vname (xs.getD j ByteArray.empty) = true) : firstBad xs = xs.length := by
  unfold firstBad
  rw [List.findIdx_eq_length]
  intro x hx
  obtain ⟨j, hj, rfl⟩ := List.mem_iff_getElem.1 hx
  have := hA j hj
  rw [List.getD_eq_getElem?_getD, List.getElem?_eq_getElem hj] at this
  simpa using this
/-- What slices.IndexFunc answers: the place of the first string that is no name, or -1. -/
def fbI (xs : List ByteArray) : Int := if firstBad xs < xs.length then (firstBad xs : Int) else -1
theorem fbI_hit {xs : List ByteArray} {k : Nat} (hk : k < xs.length) (hb : vname (xs.getD k ByteArray.empty) = false) (hA : ∀ j, j < k → vname (xs.getD j ByteArray.empty) = true) : (k : Int) = fbI xs := by
  unfold fbI; rw [firstBad_hit hk hb hA, if_pos hk]
theorem fbI_miss {xs : List ByteArray} (hA : ∀ j, j < xs.length → vname (xs.getD j ByteArray.empty) = true) : -1 = fbI xs := by
  unfold fbI; rw [firstBad_miss hA, if_neg (Nat.lt_irrefl _)]
theorem eg_comp1 : ∀ args w, (callFunc 65 args).run Try.prog w = .ok (.enter 65 args) w := enters_of Try.func65 (by kernel_rfl) rfl

set_option maxHeartbeats 400000 in
theorem indexFunc_any (v : Value) (xs : List ByteArray) (w : World) (h : Strs w w.heap.size v xs) :
    Calls Try.prog 64 #[v, .func (.func 65) #[] #[]] w fun e w' => e = .returned (.int .i64 (fbI xs)) ∧ Below w.heap.size w w' := by
  obtain ⟨a, c, rfl, hc, hl, hs, hx⟩ := h
  have eg := eg_comp1
  go_enter Try.func64, Try.ntmps64
  go_wp2
  go_loopg [5, 8] xs.length (fun gg _ s8 wr => ∃ kk : Nat, kk ≤ xs.length ∧ xs.length - kk ≤ gg ∧ s8 = .int .i64 kk ∧ Aside (Below w.heap.size w wr) ∧ Aside (∀ j, j < kk → vname (xs.getD j ByteArray.empty) = true))
  case atStart => exact ⟨0, Nat.zero_le _, by omega, rfl, Below.refl _ w, fun j hj => absurd hj (Nat.not_lt_zero _)⟩
  case round =>
    obtain ⟨kk, hkk, hg, rfl, BW, A⟩ := hrel
    by_cases hlt : kk < xs.length
    · have hltz : (kk : Int) < (xs.length : Int) := by omega
      obtain ⟨b, o, rfl, hb, hj⟩ := hx (by omega)
      have hcell : wr.cell? ⟨b, o + kk, none⟩ = some (.string (xs.getD kk ByteArray.empty)) := (BW.out.cell (p := ⟨b, o + kk, none⟩) hb).trans (hj kk hlt)
      have hsz : (xs.getD kk ByteArray.empty).size ≤ maxLen := by
        rw [List.getD_eq_getElem?_getD, List.getElem?_eq_getElem hlt]; exact hs _ (List.getElem_mem hlt)
      clear hx hs hj
      generalize hy : xs.getD kk ByteArray.empty = y at hcell hsz
      have B : Aside (xs.getD kk ByteArray.empty = y) := hy
      clear hy
      have hcall := fun W => comp1_any y W hsz
      clear hsz
      cases hq : vname y with
      | false =>
        rw [hq] at hcall
        have Q : Aside (vname y = false) := hq
        clear hq
        go_wp2_with (go_at_fn 65; refine (hcall _).mono ?_; rintro e w' ⟨rfl, hb'⟩)
        go_ret
        exact ⟨ret_int (fbI_hit hlt (by rw [B.out]; exact Q.out) A.out), BW.out.trans (hb'.mono BW.out.size)⟩
      | true =>
        rw [hq] at hcall
        have Q : Aside (vname y = true) := hq
        clear hq
        go_wp2_with (go_at_fn 65; refine (hcall _).mono ?_; rintro e w' ⟨rfl, hb'⟩)
        go_roundg (xs.length - (kk + 1))
        case measure => omega
        case rel =>
          refine ⟨kk + 1, by omega, by omega, by go_num, BW.out.trans (hb'.mono BW.out.size), (show Aside _ from fun j hj => ?_)⟩
          by_cases e : j = kk
          · subst e
            rw [B.out]; exact Q.out
          · exact A.out j (by omega)
    · have hltz : ¬ (kk : Int) < (xs.length : Int) := by omega
      have e : kk = xs.length := by omega
      have E : Aside (kk = xs.length) := e
      clear e
      go_wp2
      go_ret
      exact ⟨ret_int (fbI_miss fun j hj => A.out j (by have := E.out; omega)), BW.out⟩

/-- The fault of a list of components. -/
def compFault (xs : List ByteArray) : Int × Int := if firstBad xs < xs.length then (12, firstBad xs) else if 8 < xs.length then (10, 0) else (0, 0)
def compV (xs : List ByteArray) : Value := faultV (compFault xs).1 (compFault xs).2

theorem compV_bad {xs : List ByteArray} (h : 0 ≤ fbI xs) : faultV 12 (fbI xs) = compV xs := by
  unfold fbI at *; unfold compV compFault
  split at h
  · rename_i hh; rw [if_pos hh, if_pos hh]
  · omega
theorem compV_deep {xs : List ByteArray} (h : fbI xs < 0) (h8 : 8 < xs.length) : faultV 10 0 = compV xs := by
  unfold fbI at *; unfold compV compFault
  split at h
  · omega
  · rename_i hh; rw [if_neg hh, if_pos h8]
theorem compV_ok {xs : List ByteArray} (h : fbI xs < 0) (h8 : ¬ 8 < xs.length) : faultV 0 0 = compV xs := by
  unfold fbI at *; unfold compV compFault
  split at h
  · omega
  · rename_i hh; rw [if_neg hh, if_neg h8]

set_option maxHeartbeats 400000 in
theorem checkComponents_any (v : Value) (xs : List ByteArray) (w : World) (h : Strs w w.heap.size v xs) :
    Calls Try.prog 60 #[v] w fun e w' => e = .returned (compV xs) ∧ Below w.heap.size w w' := by
  have hcon := fun W (hb : Below w.heap.size w W) => indexFunc_any v xs W ((h.below hb).more hb.size)
  obtain ⟨a, c, rfl, hc, hl, hs, hx⟩ := h
  clear hs hx
  have HX : Hid (∀ i, fbI xs = i → 0 ≤ i → faultV 12 i = compV xs) := Lib.hid (fun i e h0 => by subst e; exact compV_bad h0)
  have HY : Hid (∀ i, fbI xs = i → i < 0 → 8 < xs.length → faultV 10 0 = compV xs) := Lib.hid (fun i e h0 h8 => by subst e; exact compV_deep h0 h8)
  have HZ : Hid (∀ i, fbI xs = i → i < 0 → ¬ 8 < xs.length → faultV 0 0 = compV xs) := Lib.hid (fun i e h0 h8 => by subst e; exact compV_ok h0 h8)
  generalize hi : fbI xs = i at hcon
  have HI := Lib.hid hi
  clear hi
  have HC := Lib.hid hcon
  clear hcon
  go_enter Try.func60, Try.ntmps60
  go_wp2_with fail
  refine (HC.out _ ((Below.refl _ _).alloc (Nat.le_refl _) _)).mono ?_
  rintro e w' ⟨rfl, hb'⟩
  obtain ⟨hcc, hff⟩ := bcell hb'
  have hz : w.heap.size + 1 ≤ w'.heap.size := by have := hb'.size; simp at this; omega
  have hB : Below w.heap.size w w' := ((Below.refl _ _).alloc (Nat.le_refl _) _).trans (hb'.mono (by simp))
  go_wp2
  · exact bodyPost_ret (v := faultV 12 i) (by simp [results, Try.results60, faultV, go_sem, hcc]) rfl ⟨by rw [HX.out i HI.out (by assumption)], (hB.setCell (by simp) _).setCell (by simp) _⟩
  · exact bodyPost_ret (v := faultV 10 0) (by simp [results, Try.results60, faultV, go_sem, hcc]) rfl ⟨by rw [HY.out i HI.out (by omega) (by omega)], (hB.setCell (by simp) _).setCell (by simp) _⟩
  · exact bodyPost_ret (v := faultV 0 0) (by simp [results, Try.results60, faultV, go_sem, hcc]) rfl ⟨by rw [HZ.out i HI.out (by omega) (by omega)], (hB.setCell (by simp) _).setCell (by simp) _⟩

end Go.Proofs.Ytndhhofidkaomaa
