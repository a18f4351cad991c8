/- The reference's Join at every slice of strings: the same path or fault as path.Join. Conditions: the slice's cells lie in memory as they read. -/
import Derived.Test.YtmjpcpnjppmnkaaDoorPathJoin
namespace Go.Proofs.YtmjpcpnjppmnkaaDoor
open Go.RowKit

theorem getD_eq {xs : List ByteArray} {k : Nat} (h : k < xs.length) : xs.getD k ByteArray.empty = xs[k] := by
  rw [List.getD_eq_getElem?_getD, List.getElem?_eq_getElem h]; rfl

theorem vname_mem {xs : List ByteArray} (hv : ∀ j, j < xs.length → vname (xs.getD j ByteArray.empty) = true) : ∀ x ∈ xs, vname x = true := by
  intro x hx
  obtain ⟨j, hj, rfl⟩ := List.mem_iff_getElem.1 hx
  rw [← getD_eq hj]; exact hv j hj

def flat (xs : List ByteArray) : List UInt8 := xs.flatMap fun x => 47 :: x.data.toList
theorem flat_snoc {xs : List ByteArray} {k : Nat} (h : k < xs.length) : flat (xs.take (k + 1)) = flat (xs.take k) ++ 47 :: (xs.getD k ByteArray.empty).data.toList := by
  unfold flat; rw [List.take_succ_eq_append_getElem h, getD_eq h, List.flatMap_append]; simp only [List.flatMap_cons, List.flatMap_nil, List.append_nil]
theorem flat_take_len {xs : List ByteArray} (k : Nat) (hv : ∀ x ∈ xs, vname x = true) (h8 : xs.length ≤ 8) : (flat (xs.take k)).length ≤ 104 := by
  have := flat_len (xs.take k) fun x hx => hv x (List.mem_of_mem_take hx)
  have h2 : (xs.take k).length ≤ xs.length := by simp; omega
  unfold flat; omega

theorem cat_eq (F : List UInt8) (y : ByteArray) : (⟨F.toArray⟩ ++ ⟨#[47]⟩ ++ y : ByteArray) = ⟨(F ++ 47 :: y.data.toList).toArray⟩ := by
  apply ByteArray.ext
  simp

set_option maxHeartbeats 400000 in
theorem pathString_any (v : Value) (xs : List ByteArray) (w : World) (h : Strs w w.heap.size v xs) (h8 : xs.length ≤ 8) (hv : ∀ x ∈ xs, vname x = true) :
    Calls Tryd.prog 31 #[v] w fun e w' => e = .returned (.string ⟨(pstr xs).toArray⟩) ∧ Below w.heap.size w w' := by
  have HV := Lib.hid hv
  obtain ⟨a, c, rfl, hc, hl, hs, hx⟩ := h
  by_cases h0 : xs = []
  · subst h0
    clear hx hs hv
    go_enter Tryd.func31, Tryd.ntmps31
    go_wp2
    go_ret
    exact ⟨rfl, Below.refl _ _⟩
  · have hp : 0 < xs.length := List.length_pos_iff.2 h0
    obtain ⟨b, o, rfl, hb, hj⟩ := hx hp
    have HP : Hid (pstr xs = flat xs) := Lib.hid (by unfold pstr flat; rw [if_neg h0])
    have hz0 : ((xs.length : Int) == 0) = false := by rw [beq_eq_false_iff_ne]; omega
    clear h0 hx hs hv
    go_enter Tryd.func31, Tryd.ntmps31
    go_wp2
    go_loopw [3, 4] (fun s i wr => ∃ k : Nat, k ≤ xs.length ∧ i = .int .i64 k ∧ s = .string ⟨(flat (xs.take k)).toArray⟩ ∧ Aside (Below w.heap.size w wr)) (fun _ i _ => xs.length - (intOf i).toNat)
    case atStart => exact ⟨0, Nat.zero_le _, rfl, rfl, Below.refl _ _⟩
    case round =>
      obtain ⟨k, hk, rfl, rfl, BW⟩ := hrel
      by_cases hlt : k < xs.length
      · have hcell : wr.cell? ⟨b, o + k, none⟩ = some (.string (xs.getD k ByteArray.empty)) := (BW.out.cell (p := ⟨b, o + k, none⟩) hb).trans (hj k hlt)
        have HS := Lib.hid (flat_snoc hlt)
        have hfl := flat_take_len k HV.out h8
        have hsz := vname_size (HV.out (xs.getD k ByteArray.empty) (by rw [getD_eq hlt]; exact List.getElem_mem hlt))
        generalize xs.getD k ByteArray.empty = y at *
        generalize flat (xs.take k) = F at *
        clear hj
        have hF : F.length + 1 ≤ 9223372036854775807 := by omega
        have hF2 : F.length + 1 + y.size ≤ 9223372036854775807 := by omega
        go_wp2
        go_roundw
        case rel => exact ⟨k + 1, by omega, by go_num, by rw [HS.out, cat_eq], BW⟩
        case measure => simp [intOf]; omega
      · have hltz : ¬ (k : Int) < (xs.length : Int) := by omega
        have e : k = xs.length := by omega
        have E := Lib.hid e
        clear e
        go_wp2
        go_ret
        exact ⟨ret_str (by rw [HP.out, E.out, List.take_length]), BW.out⟩

theorem compFault_bad {xs : List ByteArray} {k : Nat} (hk : k < xs.length) (hb : vname (xs.getD k ByteArray.empty) = false) (hA : ∀ j, j < k → vname (xs.getD j ByteArray.empty) = true) : compFault xs = (12, (k : Int)) := by
  unfold compFault; rw [firstBad_hit hk hb hA, if_pos hk]
theorem compFault_deep {xs : List ByteArray} (h8 : 8 < xs.length) (hA : ∀ j, j < xs.length → vname (xs.getD j ByteArray.empty) = true) : compFault xs = (10, 0) := by
  unfold compFault; rw [firstBad_miss hA, if_neg (Nat.lt_irrefl _), if_pos h8]
theorem compFault_fine {xs : List ByteArray} (h8 : ¬ 8 < xs.length) (hA : ∀ j, j < xs.length → vname (xs.getD j ByteArray.empty) = true) : compFault xs = (0, 0) := by
  unfold compFault; rw [firstBad_miss hA, if_neg (Nat.lt_irrefl _), if_neg h8]
theorem joinV_fault {xs : List ByteArray} {c i : Int} (h : compFault xs = (c, i)) (hc : c ≠ 0) : joinV xs = .tuple #[.string ⟨#[]⟩, .agg #[.int .i64 c, .int .i64 i]] := by
  unfold joinV joinS joinF faultV; rw [h]; simp only [if_neg hc]
theorem joinV_long {xs : List ByteArray} (h : compFault xs = (0, 0)) (hl : 100 < (pstr xs).length) : joinV xs = .tuple #[.string ⟨#[]⟩, .agg #[.int .i64 2, .int .i64 0]] := by
  unfold joinV joinS joinF faultV; rw [h]; simp only [if_pos hl, if_true]
theorem joinV_good {xs : List ByteArray} (h : compFault xs = (0, 0)) (hl : ¬ 100 < (pstr xs).length) : joinV xs = .tuple #[.string ⟨(pstr xs).toArray⟩, .agg #[.int .i64 0, .int .i64 0]] := by
  unfold joinV joinS joinF faultV; rw [h]; simp only [if_neg hl, if_true]

set_option maxHeartbeats 800000 in
theorem refJoin_any (v : Value) (xs : List ByteArray) (w : World) (h : Strs w w.heap.size v xs) :
    Calls Tryd.prog 23 #[v] w fun e w' => e = .returned (joinV xs) ∧ Below w.heap.size w w' := by
  have H := Lib.hid h
  obtain ⟨a, c, rfl, hc, hl, hs, hx⟩ := h
  go_enter Tryd.func23, Tryd.ntmps23
  go_wp2
  go_loop [4] (fun i => ∃ k : Nat, k ≤ xs.length ∧ i = .int .i64 k ∧ Aside (∀ j, j < k → vname (xs.getD j ByteArray.empty) = true)) (fun i => xs.length - (intOf i).toNat)
  case atStart => exact ⟨0, Nat.zero_le _, rfl, fun j hj => absurd hj (Nat.not_lt_zero _)⟩
  case round =>
    obtain ⟨k, hk, rfl, A⟩ := hrel
    by_cases hlt : k < xs.length
    · obtain ⟨b, o, rfl, hb, hj⟩ := hx (by omega)
      have hcell : w.cell? ⟨b, o + k, none⟩ = some (.string (xs.getD k ByteArray.empty)) := hj k hlt
      have hsz : (xs.getD k ByteArray.empty).size ≤ maxLen := by
        rw [getD_eq hlt]; exact hs _ (List.getElem_mem hlt)
      clear hx hs hj
      generalize hy : xs.getD k ByteArray.empty = y at hcell hsz
      have B : Aside (xs.getD k ByteArray.empty = y) := hy
      clear hy
      have hcall := fun W => validName_any y W hsz
      clear hsz
      cases hq : vname y with
      | false =>
        rw [hq] at hcall
        have Q : Aside (vname y = false) := hq
        clear hq
        go_wp2_with fail
        refine (hcall _).mono ?_
        rintro e w' ⟨rfl, rfl⟩
        go_wp2_with fail
        refine (newFault_any _ _ _).mono ?_
        rintro e w' ⟨rfl, hb'⟩
        have hB : Below w.heap.size w w' := ((Below.refl _ _).alloc (Nat.le_refl _) _).trans (hb'.mono (by simp))
        have hlt' : w.heap.size < w'.heap.size := by have := hb'.size; simp at this; omega
        obtain ⟨hcc, hff⟩ := bcell hb'
        have g0 : w'.cell? ⟨w.heap.size, 0, none⟩ = some (.int .i64 0) := by rw [hcc _ _ (by simp)]; simp
        have g1 : w'.cell? ⟨w.heap.size, 1, none⟩ = some (.int .i64 0) := by rw [hcc _ _ (by simp)]; simp
        have f0 : w'.frozen? ⟨w.heap.size, 0, none⟩ = false := by rw [hff _ _ (by simp)]; simp
        have f1 : w'.frozen? ⟨w.heap.size, 1, none⟩ = false := by rw [hff _ _ (by simp)]; simp
        clear hcc hff hb'
        go_wp2
        refine bodyPost_ret (v := .tuple #[.string ⟨#[]⟩, .agg #[.int .i64 12, .int .i64 k]]) ?_ rfl ⟨by rw [joinV_fault (compFault_bad hlt (by rw [B.out]; exact Q.out) A.out) (by decide)], ?_⟩
        · simp [results, Tryd.results23, go_sem, g0, g1]
        · repeat (first | exact hB | refine Below.setCell ?_ (by simp) _ | refine Below.alloc ?_ (by simp; omega) _ | refine Below.drew ?_)
      | true =>
        rw [hq] at hcall
        have Q : Aside (vname y = true) := hq
        clear hq
        go_wp2_with fail
        refine (hcall _).mono ?_
        rintro e w' ⟨rfl, rfl⟩
        go_wp2
        go_round
        case rel =>
          refine ⟨k + 1, by omega, by go_num, fun j hjk => ?_⟩
          by_cases e : j = k
          · subst e; rw [B.out]; exact Q.out
          · exact A.out j (by omega)
        case measure => simp [intOf]; omega
    · have hltz : ¬ (k : Int) < (xs.length : Int) := by omega
      have e : k = xs.length := by omega
      have A' : Aside (∀ j, j < xs.length → vname (xs.getD j ByteArray.empty) = true) := by rw [← e]; exact A
      clear A e hx hs
      by_cases h8 : 8 < xs.length
      · go_wp2_with fail
        refine (newFault_any _ _ _).mono ?_
        rintro e w' ⟨rfl, hb'⟩
        have hB : Below w.heap.size w w' := ((Below.refl _ _).alloc (Nat.le_refl _) _).trans (hb'.mono (by simp))
        have hlt' : w.heap.size < w'.heap.size := by have := hb'.size; simp at this; omega
        obtain ⟨hcc, hff⟩ := bcell hb'
        have g0 : w'.cell? ⟨w.heap.size, 0, none⟩ = some (.int .i64 0) := by rw [hcc _ _ (by simp)]; simp
        have g1 : w'.cell? ⟨w.heap.size, 1, none⟩ = some (.int .i64 0) := by rw [hcc _ _ (by simp)]; simp
        have f0 : w'.frozen? ⟨w.heap.size, 0, none⟩ = false := by rw [hff _ _ (by simp)]; simp
        have f1 : w'.frozen? ⟨w.heap.size, 1, none⟩ = false := by rw [hff _ _ (by simp)]; simp
        clear hcc hff hb'
        go_wp2
        refine bodyPost_ret (v := .tuple #[.string ⟨#[]⟩, .agg #[.int .i64 10, .int .i64 0]]) ?_ rfl ⟨by rw [joinV_fault (compFault_deep h8 A'.out) (by decide)], ?_⟩
        · simp [results, Tryd.results23, go_sem, g0, g1]
        · repeat (first | exact hB | refine Below.setCell ?_ (by simp) _ | refine Below.alloc ?_ (by simp; omega) _ | refine Below.drew ?_)
      · have CF := Lib.hid (compFault_fine h8 A'.out)
        have hcon := fun W (hb : Below w.heap.size w W) => pathString_any _ xs W ((H.out.below hb).more hb.size) (by omega) (vname_mem A'.out)
        have HL := Lib.hid fun h => joinV_long CF.out h
        have HG := Lib.hid fun h => joinV_good CF.out h
        have hpl : (pstr xs).length ≤ 105 := pstr_len (by rw [CF.out])
        generalize pstr xs = F at *
        have HC := Lib.hid hcon
        clear hcon
        go_wp2_with fail
        refine (HC.out _ ((Below.refl _ _).alloc (Nat.le_refl _) _)).mono ?_
        rintro e w' ⟨rfl, hb'⟩
        have hB : Below w.heap.size w w' := ((Below.refl _ _).alloc (Nat.le_refl _) _).trans (hb'.mono (by simp))
        have hlt' : w.heap.size < w'.heap.size := by have := hb'.size; simp at this; omega
        obtain ⟨hcc, hff⟩ := bcell hb'
        have g0 : w'.cell? ⟨w.heap.size, 0, none⟩ = some (.int .i64 0) := by rw [hcc _ _ (by simp)]; simp
        have g1 : w'.cell? ⟨w.heap.size, 1, none⟩ = some (.int .i64 0) := by rw [hcc _ _ (by simp)]; simp
        have f0 : w'.frozen? ⟨w.heap.size, 0, none⟩ = false := by rw [hff _ _ (by simp)]; simp
        have f1 : w'.frozen? ⟨w.heap.size, 1, none⟩ = false := by rw [hff _ _ (by simp)]; simp
        clear hcc hff hb'
        by_cases hl : 100 < F.length
        · have hl2 : (100 : Int) < (F.length : Int) := by omega
          go_wp2_with fail
          refine (newFault_any _ _ _).mono ?_
          rintro e w2 ⟨rfl, hb2⟩
          have hB2 : Below w.heap.size w w2 := hB.trans (hb2.mono (by omega))
          have hlt2 : w.heap.size < w2.heap.size := by have := hb2.size; omega
          obtain ⟨hcc, hff⟩ := bcell hb2
          have k0 : w2.cell? ⟨w.heap.size, 0, none⟩ = some (.int .i64 0) := by rw [hcc _ _ hlt']; exact g0
          have k1 : w2.cell? ⟨w.heap.size, 1, none⟩ = some (.int .i64 0) := by rw [hcc _ _ hlt']; exact g1
          have e0 : w2.frozen? ⟨w.heap.size, 0, none⟩ = false := by rw [hff _ _ hlt']; exact f0
          have e1 : w2.frozen? ⟨w.heap.size, 1, none⟩ = false := by rw [hff _ _ hlt']; exact f1
          clear hcc hff hb2 g0 g1 f0 f1
          go_wp2
          refine bodyPost_ret (v := .tuple #[.string ⟨#[]⟩, .agg #[.int .i64 2, .int .i64 0]]) ?_ rfl ⟨by rw [HL.out hl], ?_⟩
          · simp [results, Tryd.results23, go_sem, k0, k1]
          · repeat (first | exact hB2 | refine Below.setCell ?_ (by simp) _ | refine Below.alloc ?_ (by simp; omega) _ | refine Below.drew ?_)
        · have hl2 : ¬ (100 : Int) < (F.length : Int) := by omega
          go_wp2
          refine bodyPost_ret (v := .tuple #[.string ⟨F.toArray⟩, .agg #[.int .i64 0, .int .i64 0]]) ?_ rfl ⟨by rw [HG.out hl], ?_⟩
          · simp [results, Tryd.results23, go_sem, g0, g1]
          · repeat (first | exact hB | refine Below.setCell ?_ (by simp) _ | refine Below.alloc ?_ (by simp; omega) _ | refine Below.drew ?_)

end Go.Proofs.YtmjpcpnjppmnkaaDoor
