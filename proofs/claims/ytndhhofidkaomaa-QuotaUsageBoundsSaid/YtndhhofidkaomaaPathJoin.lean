/- path.Join and the reference's Join at every slice of strings: both return the same path or fault. Conditions: the slice's cells lie in memory as they read. -/
import Derived.Test.YtndhhofidkaomaaPathComps
import Derived.RegionTactic
import Derived.ChangeAlike

set_option linter.all false
namespace Go.Proofs.Ytndhhofidkaomaa
open Go.RowKit

/-- The path with the given components. -/
def pstr (xs : List ByteArray) : List UInt8 := if xs = [] then [47] else xs.flatMap fun x => 47 :: x.data.toList
theorem pstr_join (xs : List ByteArray) : 47 :: Lib.join (xs.map (·.data.toList)) [47] = pstr xs := by
  unfold pstr
  cases xs with
  | nil => rfl
  | cons x r =>
    rw [if_neg (by simp)]
    induction r generalizing x with
    | nil => simp [Lib.join]
    | cons y r ih => 
      have := ih y
      simp [Lib.join] at this ⊢
      rw [this]
/-- What Join returns. -/
def joinS (xs : List ByteArray) : List UInt8 := if (compFault xs).1 = 0 then (if 100 < (pstr xs).length then [] else pstr xs) else []
def joinF (xs : List ByteArray) : Int × Int := if (compFault xs).1 = 0 then (if 100 < (pstr xs).length then (2, 0) else (0, 0)) else compFault xs
def joinV (xs : List ByteArray) : Value := .tuple #[.string ⟨(joinS xs).toArray⟩, faultV (joinF xs).1 (joinF xs).2]

set_option maxHeartbeats 400000 in
theorem pathJoin_bad (v : Value) (xs : List ByteArray) (w : World) (h : Strs w w.heap.size v xs) (hbad : (compFault xs).1 ≠ 0) :
    Calls Try.prog 50 #[v] w fun e w' => e = .returned (joinV xs) ∧ Below w.heap.size w w' := by
  have HJ : Hid (joinV xs = .tuple #[.string ⟨#[]⟩, faultV (compFault xs).1 (compFault xs).2]) := Lib.hid (by unfold joinV joinS joinF; rw [if_neg hbad, if_neg hbad])
  have hcon := fun W (hb : Below w.heap.size w W) => checkComponents_any v xs W ((h.below hb).more hb.size)
  unfold compV faultV at hcon
  generalize (compFault xs).1 = c at *
  generalize (compFault xs).2 = i at *
  have hc1 : (c != 0) = true := by simpa using hbad
  have hc2 : (c == 0) = false := by simpa using hbad
  clear hbad h
  have HC := Lib.hid hcon
  clear hcon
  go_enter Try.func50, Try.ntmps50
  go_wp2_with fail
  refine (HC.out _ ((Below.refl _ _).alloc (Nat.le_refl _) _)).mono ?_
  rintro e w' ⟨rfl, hb'⟩
  obtain ⟨hcc, hff⟩ := bcell hb'
  have hz : w.heap.size + 1 ≤ w'.heap.size := by have := hb'.size; simp at this; omega
  have hB : Below w.heap.size w w' := ((Below.refl _ _).alloc (Nat.le_refl _) _).trans (hb'.mono (by simp))
  go_wp2
  have hlt : w.heap.size < w'.heap.size := by omega
  have g0 : w'.cell? ⟨w.heap.size, 0, none⟩ = some (.int .i64 0) := by rw [hcc _ _ (by simp)]; simp
  have g1 : w'.cell? ⟨w.heap.size, 1, none⟩ = some (.int .i64 0) := by rw [hcc _ _ (by simp)]; simp
  have f0 : w'.frozen? ⟨w.heap.size, 0, none⟩ = false := by rw [hff _ _ (by simp)]; simp
  have f1 : w'.frozen? ⟨w.heap.size, 1, none⟩ = false := by rw [hff _ _ (by simp)]; simp
  go_region
  go_wp2
  refine bodyPost_ret (v := .tuple #[.string ⟨#[]⟩, faultV c i]) ?_ rfl ⟨by rw [HJ.out], ?_⟩
  · simp [results, Try.results50, faultV, go_sem, hcc, hlt]
  · repeat (first | exact hB | refine Below.setCell ?_ (by simp) _ | refine Below.alloc ?_ (by simp; omega) _ | refine Below.drew ?_)

theorem compFault_ok {xs : List ByteArray} (h : (compFault xs).1 = 0) : xs.length ≤ 8 ∧ (compFault xs).2 = 0 ∧ ∀ x ∈ xs, vname x = true := by
  unfold compFault at *
  split at h
  · cases h
  · rename_i hn
    split at h
    · cases h
    · rename_i h8
      rw [if_neg hn, if_neg h8]
      refine ⟨by omega, rfl, fun x hx => ?_⟩
      have hle : firstBad xs ≤ xs.length := List.findIdx_le_length
      have he : firstBad xs = xs.length := by omega
      unfold firstBad at he
      rw [List.findIdx_eq_length] at he
      simpa using he x hx
theorem vname_size {s : ByteArray} (h : vname s = true) : 1 ≤ s.size ∧ s.size ≤ 12 := by
  unfold vname at h
  rw [Bool.and_eq_true] at h
  have := vshape_iff.1 h.1
  exact ⟨this.1, this.2.1⟩
theorem flat_len : ∀ (xs : List ByteArray), (∀ x ∈ xs, vname x = true) → (xs.flatMap fun x => 47 :: x.data.toList).length ≤ 13 * xs.length
  | [], _ => by simp
  | x :: r, h => by
    have h1 := flat_len r fun y hy => h y (by simp [hy])
    have h2 := (vname_size (h x (by simp))).2
    have h3 : x.data.toList.length = x.size := by simp
    simp only [List.flatMap_cons, List.length_append, List.length_cons] at *
    omega
theorem pstr_len {xs : List ByteArray} (h : (compFault xs).1 = 0) : (pstr xs).length ≤ 105 := by
  obtain ⟨h8, _, hv⟩ := compFault_ok h
  unfold pstr
  split
  · simp
  · have := flat_len xs hv
    omega

theorem stringsJoin_any (v : Value) (xs : List ByteArray) (w : World) (h : Strs w w.heap.size v xs) (hl : (Lib.join (xs.map (·.data.toList)) [47]).length ≤ 1000) :
    Calls Try.prog 61 #[v, .string ⟨#[47]⟩] w fun e w' => e = .returned (.string ⟨(Lib.join (xs.map (·.data.toList)) [47]).toArray⟩) ∧ Below w.heap.size w w' := by
  obtain ⟨a, c, rfl, hc, hn, hs, hx⟩ := h
  by_cases h0 : 0 < xs.length
  · obtain ⟨b, o, rfl, hb, hj⟩ := hx h0
    exact Try.strings_Join b o c xs ⟨#[47]⟩ w (fun j x hjx => by
      have hjl : j < xs.length := (List.getElem?_eq_some_iff.1 hjx).1
      rw [hj j hjl, List.getD_eq_getElem?_getD, hjx]; rfl) hb (by omega) hc (by show (Lib.join (xs.map (·.data.toList)) [47]).length ≤ _; omega)
  · have e : xs = [] := List.eq_nil_of_length_eq_zero (by omega)
    subst e
    exact (Try.strings_Join_none a c ⟨#[47]⟩ w).mono fun e w' ⟨he, hw⟩ => ⟨he, hw ▸ Below.refl _ _⟩

set_option maxHeartbeats 400000 in
theorem pathJoin_ok (v : Value) (xs : List ByteArray) (w : World) (h : Strs w w.heap.size v xs) (hok : (compFault xs).1 = 0) :
    Calls Try.prog 50 #[v] w fun e w' => e = .returned (joinV xs) ∧ Below w.heap.size w w' := by
  have hlen := pstr_len hok
  rw [← pstr_join] at hlen
  have HJ : Hid (joinV xs = .tuple #[.string ⟨(if 100 < (pstr xs).length then [] else pstr xs).toArray⟩, faultV (if 100 < (pstr xs).length then 2 else 0) 0]) := Lib.hid (by
    unfold joinV joinS joinF; rw [if_pos hok, if_pos hok]; split <;> rfl)
  have hcon := fun W (hb : Below w.heap.size w W) => checkComponents_any v xs W ((h.below hb).more hb.size)
  have hjoin := fun W (hb : Below w.heap.size w W) => stringsJoin_any v xs W ((h.below hb).more hb.size) (by simp at hlen; omega)
  unfold compV faultV at hcon
  have hok2 := (compFault_ok hok).2.1
  rw [hok, hok2] at hcon
  rw [← pstr_join] at HJ
  clear hok hok2 h
  generalize Lib.join (xs.map (·.data.toList)) [47] = J at *
  have HC := Lib.hid hcon
  have HD := Lib.hid hjoin
  clear hcon hjoin
  have hJ : ¬ 9223372036854775807 < 1 + J.length := by simp at hlen; omega
  clear hlen
  go_enter Try.func50, Try.ntmps50
  go_wp2_with fail
  refine (HC.out _ ((Below.refl _ _).alloc (Nat.le_refl _) _)).mono ?_
  rintro e w' ⟨rfl, hb'⟩
  obtain ⟨hcc, hff⟩ := bcell hb'
  have hz : w.heap.size + 1 ≤ w'.heap.size := by have := hb'.size; simp at this; omega
  have hB : Below w.heap.size w w' := ((Below.refl _ _).alloc (Nat.le_refl _) _).trans (hb'.mono (by simp))
  have g0 : w'.cell? ⟨w.heap.size, 0, none⟩ = some (.int .i64 0) := by rw [hcc _ _ (by simp)]; simp
  have g1 : w'.cell? ⟨w.heap.size, 1, none⟩ = some (.int .i64 0) := by rw [hcc _ _ (by simp)]; simp
  have f0 : w'.frozen? ⟨w.heap.size, 0, none⟩ = false := by rw [hff _ _ (by simp)]; simp
  have f1 : w'.frozen? ⟨w.heap.size, 1, none⟩ = false := by rw [hff _ _ (by simp)]; simp
  clear hcc hff hb'
  go_wp2_with fail
  refine (HD.out _ (hB.alloc (by omega) _)).mono ?_
  rintro e w2 ⟨rfl, hb2⟩
  have hz2 : w'.heap.size + 1 ≤ w2.heap.size := by have := hb2.size; simp at this; omega
  have hlt : w.heap.size < w2.heap.size := by omega
  obtain ⟨hcc, hff⟩ := bcell hb2
  have k0 : w2.cell? ⟨w.heap.size, 0, none⟩ = some (.int .i64 0) := by rw [hcc _ _ (by simp; omega), World.cell?_alloc_lt _ _ _ (by simp; omega)]; exact g0
  have k1 : w2.cell? ⟨w.heap.size, 1, none⟩ = some (.int .i64 0) := by rw [hcc _ _ (by simp; omega), World.cell?_alloc_lt _ _ _ (by simp; omega)]; exact g1
  have e0 : w2.frozen? ⟨w.heap.size, 0, none⟩ = false := by rw [hff _ _ (by simp; omega), World.frozen?_alloc_past _ _ _ (by omega)]; exact f0
  have e1 : w2.frozen? ⟨w.heap.size, 1, none⟩ = false := by rw [hff _ _ (by simp; omega), World.frozen?_alloc_past _ _ _ (by omega)]; exact f1
  have hB2 : Below w.heap.size w w2 := (hB.alloc (by omega) _).trans (hb2.mono (by simp; omega))
  clear hcc hff hb2 g0 g1 f0 f1
  go_wp2
  · have hl : 100 < (47 :: J).length := by simp; omega
    refine bodyPost_ret (v := .tuple #[.string ⟨#[]⟩, faultV 2 0]) ?_ rfl ⟨by rw [HJ.out, if_pos hl, if_pos hl], ?_⟩
    · simp [results, Try.results50, faultV, go_sem, k0, k1]
    · repeat (first | exact hB2 | refine Below.setCell ?_ (by simp) _ | refine Below.alloc ?_ (by simp; omega) _ | refine Below.drew ?_)
  · have hl : ¬ 100 < (47 :: J).length := by simp; omega
    refine bodyPost_ret (v := .tuple #[.string (⟨#[47]⟩ ++ ⟨J.toArray⟩), faultV 0 0]) ?_ rfl ⟨?_, ?_⟩
    · simp [results, Try.results50, faultV, go_sem, k0, k1]
    · rw [HJ.out, if_neg hl, if_neg hl]; congr 4
    · repeat (first | exact hB2 | refine Below.setCell ?_ (by simp) _ | refine Below.alloc ?_ (by simp; omega) _ | refine Below.drew ?_)

theorem pathJoin_any (v : Value) (xs : List ByteArray) (w : World) (h : Strs w w.heap.size v xs) :
    Calls Try.prog 50 #[v] w fun e w' => e = .returned (joinV xs) ∧ Below w.heap.size w w' := by
  by_cases hok : (compFault xs).1 = 0
  · exact pathJoin_ok v xs w h hok
  · exact pathJoin_bad v xs w h hok

end Go.Proofs.Ytndhhofidkaomaa
