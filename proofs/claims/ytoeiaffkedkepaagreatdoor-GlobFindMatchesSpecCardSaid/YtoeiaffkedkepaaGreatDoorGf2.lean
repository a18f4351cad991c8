/- GlobFindMatchesSpec: for every tree and every pattern the law returns true.
   Condition: as each theorem states; this text: PathJoin, AttrSlice, AttrCode, AttrValid, AttrNames0, PathCompF, PathPieces, GlobParts, PathSplit, PathRound, GlobRef. -/
import Derived.Test.YtoeiaffkedkepaaGreatDoorGf1
import Derived.RegionTactic
import Derived.ChangeAlike
import Derived.Laws.AppendOwn
import Derived.Laws.AppendOwnNone
import Derived.Laws.OwnMore
import Derived.OwnWalk
import Derived.Deep.LoopGhost
import Derived.Deep.Draws
import Derived.BigQuiet
import Derived.Lib.SlicesCompact
import Derived.Lib.Split
import Derived.Lib.SplitLaws
import Derived.Lib.IndexLaws
import Derived.Lib.FieldsP
import Derived.Lib.TrimUEq
import Derived.Lib.MapLaws
import Derived.WalkSmall

/- path.Join and the reference's Join at every slice of strings: both return the same path or fault. Conditions: the slice's cells lie in memory as they read. -/
namespace Go.Proofs.YtoeiaffkedkepaaGreatDoor
open Go.RowKit

/-- The path with the given components. -/
def pstr (xs : List ByteArray) : List UInt8 := if xs = [] then [47] else xs.flatMap fun x => 47 :: x.data.toList
theorem pstr_join (xs : List ByteArray) : 47 :: Lib.join (xs.map (·.data.toList)) [47] = pstr xs := by
  unfold pstr
  cases xs with
  | nil => rfl
  | cons x r =>
    rw [if_neg (by simp)]
    induction r generalizing x with
    | nil => simp [Lib.join]
    | cons y r ih => 
      have := ih y
      simp [Lib.join] at this ⊢
      rw [this]
/-- What Join returns. -/
def joinS (xs : List ByteArray) : List UInt8 := if (compFault xs).1 = 0 then (if 100 < (pstr xs).length then [] else pstr xs) else []
def joinF (xs : List ByteArray) : Int × Int := if (compFault xs).1 = 0 then (if 100 < (pstr xs).length then (2, 0) else (0, 0)) else compFault xs
def joinV (xs : List ByteArray) : Value := .tuple #[.string ⟨(joinS xs).toArray⟩, faultV (joinF xs).1 (joinF xs).2]

set_option maxHeartbeats 400000 in
theorem pathJoin_bad (v : Value) (xs : List ByteArray) (w : World) (h : Strs w w.heap.size v xs) (hbad : (compFault xs).1 ≠ 0) :
    Calls Tryz.prog 50 #[v] w fun e w' => e = .returned (joinV xs) ∧ Below w.heap.size w w' := by
  have HJ : Hid (joinV xs = .tuple #[.string ⟨#[]⟩, faultV (compFault xs).1 (compFault xs).2]) := Lib.hid (by unfold joinV joinS joinF; rw [if_neg hbad, if_neg hbad])
  have hcon := fun W (hb : Below w.heap.size w W) => checkComponents_any v xs W ((h.below hb).more hb.size)
  unfold compV faultV at hcon
  generalize (compFault xs).1 = c at *
  generalize (compFault xs).2 = i at *
  have hc1 : (c != 0) = true := by simpa using hbad
  have hc2 : (c == 0) = false := by simpa using hbad
  clear hbad h
  have HC := Lib.hid hcon
  clear hcon
  go_enter Tryz.func50, Tryz.ntmps50
  go_wp2_with fail
  refine (HC.out _ ((Below.refl _ _).alloc (Nat.le_refl _) _)).mono ?_
  rintro e w' ⟨rfl, hb'⟩
  obtain ⟨hcc, hff⟩ := bcell hb'
  have hz : w.heap.size + 1 ≤ w'.heap.size := by have := hb'.size; simp at this; omega
  have hB : Below w.heap.size w w' := ((Below.refl _ _).alloc (Nat.le_refl _) _).trans (hb'.mono (by simp))
  go_wp2
  have hlt : w.heap.size < w'.heap.size := by omega
  have g0 : w'.cell? ⟨w.heap.size, 0, none⟩ = some (.int .i64 0) := by rw [hcc _ _ (by simp)]; simp
  have g1 : w'.cell? ⟨w.heap.size, 1, none⟩ = some (.int .i64 0) := by rw [hcc _ _ (by simp)]; simp
  have f0 : w'.frozen? ⟨w.heap.size, 0, none⟩ = false := by rw [hff _ _ (by simp)]; simp
  have f1 : w'.frozen? ⟨w.heap.size, 1, none⟩ = false := by rw [hff _ _ (by simp)]; simp
  go_region
  go_wp2
  refine bodyPost_ret (v := .tuple #[.string ⟨#[]⟩, faultV c i]) ?_ rfl ⟨by rw [HJ.out], ?_⟩
  · simp [results, Tryz.results50, faultV, go_sem, hcc, hlt]
  · repeat (first | exact hB | refine Below.setCell ?_ (by simp) _ | refine Below.alloc ?_ (by simp; omega) _ | refine Below.drew ?_)

theorem compFault_ok {xs : List ByteArray} (h : (compFault xs).1 = 0) : xs.length ≤ 8 ∧ (compFault xs).2 = 0 ∧ ∀ x ∈ xs, vname x = true := by
  unfold compFault at *
  split at h
  · cases h
  · rename_i hn
    split at h
    · cases h
    · rename_i h8
      rw [if_neg hn, if_neg h8]
      refine ⟨by omega, rfl, fun x hx => ?_⟩
      have hle : firstBad xs ≤ xs.length := List.findIdx_le_length
      have he : firstBad xs = xs.length := by omega
      unfold firstBad at he
      rw [List.findIdx_eq_length] at he
      simpa using he x hx
theorem vname_size {s : ByteArray} (h : vname s = true) : 1 ≤ s.size ∧ s.size ≤ 12 := by
  unfold vname at h
  rw [Bool.and_eq_true] at h
  have := vshape_iff.1 h.1
  exact ⟨this.1, this.2.1⟩
theorem flat_len : ∀ (xs : List ByteArray), (∀ x ∈ xs, vname x = true) → (xs.flatMap fun x => 47 :: x.data.toList).length ≤ 13 * xs.length
  | [], _ => by simp
  | x :: r, h => by
    have h1 := flat_len r fun y hy => h y (by simp [hy])
    have h2 := (vname_size (h x (by simp))).2
    have h3 : x.data.toList.length = x.size := by simp
    simp only [List.flatMap_cons, List.length_append, List.length_cons] at *
    omega
theorem pstr_len {xs : List ByteArray} (h : (compFault xs).1 = 0) : (pstr xs).length ≤ 105 := by
  obtain ⟨h8, _, hv⟩ := compFault_ok h
  unfold pstr
  split
  · simp
  · have := flat_len xs hv
    omega

theorem stringsJoin_any (v : Value) (xs : List ByteArray) (w : World) (h : Strs w w.heap.size v xs) (hl : (Lib.join (xs.map (·.data.toList)) [47]).length ≤ 1000) :
    Calls Tryz.prog 73 #[v, .string ⟨#[47]⟩] w fun e w' => e = .returned (.string ⟨(Lib.join (xs.map (·.data.toList)) [47]).toArray⟩) ∧ Below w.heap.size w w' := by
  obtain ⟨a, c, rfl, hc, hn, hs, hx⟩ := h
  by_cases h0 : 0 < xs.length
  · obtain ⟨b, o, rfl, hb, hj⟩ := hx h0
    exact Tryz.strings_Join b o c xs ⟨#[47]⟩ w (fun j x hjx => by
      have hjl : j < xs.length := (List.getElem?_eq_some_iff.1 hjx).1
      rw [hj j hjl, List.getD_eq_getElem?_getD, hjx]; rfl) hb (by omega) hc (by show (Lib.join (xs.map (·.data.toList)) [47]).length ≤ _; omega)
  · have e : xs = [] := List.eq_nil_of_length_eq_zero (by omega)
    subst e
    exact (Tryz.strings_Join_none a c ⟨#[47]⟩ w).mono fun e w' ⟨he, hw⟩ => ⟨he, hw ▸ Below.refl _ _⟩

set_option maxHeartbeats 400000 in
theorem pathJoin_ok (v : Value) (xs : List ByteArray) (w : World) (h : Strs w w.heap.size v xs) (hok : (compFault xs).1 = 0) :
    Calls Tryz.prog 50 #[v] w fun e w' => e = .returned (joinV xs) ∧ Below w.heap.size w w' := by
  have hlen := pstr_len hok
  rw [← pstr_join] at hlen
  have HJ : Hid (joinV xs = .tuple #[.string ⟨(if 100 < (pstr xs).length then [] else pstr xs).toArray⟩, faultV (if 100 < (pstr xs).length then 2 else 0) 0]) := Lib.hid (by
    unfold joinV joinS joinF; rw [if_pos hok, if_pos hok]; split <;> rfl)
  have hcon := fun W (hb : Below w.heap.size w W) => checkComponents_any v xs W ((h.below hb).more hb.size)
  have hjoin := fun W (hb : Below w.heap.size w W) => stringsJoin_any v xs W ((h.below hb).more hb.size) (by simp at hlen; omega)
  unfold compV faultV at hcon
  have hok2 := (compFault_ok hok).2.1
  rw [hok, hok2] at hcon
  rw [← pstr_join] at HJ
  clear hok hok2 h
  generalize Lib.join (xs.map (·.data.toList)) [47] = J at *
  have HC := Lib.hid hcon
  have HD := Lib.hid hjoin
  clear hcon hjoin
  have hJ : ¬ 9223372036854775807 < 1 + J.length := by simp at hlen; omega
  clear hlen
  go_enter Tryz.func50, Tryz.ntmps50
  go_wp2_with fail
  refine (HC.out _ ((Below.refl _ _).alloc (Nat.le_refl _) _)).mono ?_
  rintro e w' ⟨rfl, hb'⟩
  obtain ⟨hcc, hff⟩ := bcell hb'
  have hz : w.heap.size + 1 ≤ w'.heap.size := by have := hb'.size; simp at this; omega
  have hB : Below w.heap.size w w' := ((Below.refl _ _).alloc (Nat.le_refl _) _).trans (hb'.mono (by simp))
  have g0 : w'.cell? ⟨w.heap.size, 0, none⟩ = some (.int .i64 0) := by rw [hcc _ _ (by simp)]; simp
  have g1 : w'.cell? ⟨w.heap.size, 1, none⟩ = some (.int .i64 0) := by rw [hcc _ _ (by simp)]; simp
  have f0 : w'.frozen? ⟨w.heap.size, 0, none⟩ = false := by rw [hff _ _ (by simp)]; simp
  have f1 : w'.frozen? ⟨w.heap.size, 1, none⟩ = false := by rw [hff _ _ (by simp)]; simp
  clear hcc hff hb'
  go_wp2_with fail
  refine (HD.out _ (hB.alloc (by omega) _)).mono ?_
  rintro e w2 ⟨rfl, hb2⟩
  have hz2 : w'.heap.size + 1 ≤ w2.heap.size := by have := hb2.size; simp at this; omega
  have hlt : w.heap.size < w2.heap.size := by omega
  obtain ⟨hcc, hff⟩ := bcell hb2
  have k0 : w2.cell? ⟨w.heap.size, 0, none⟩ = some (.int .i64 0) := by rw [hcc _ _ (by simp; omega), World.cell?_alloc_lt _ _ _ (by simp; omega)]; exact g0
  have k1 : w2.cell? ⟨w.heap.size, 1, none⟩ = some (.int .i64 0) := by rw [hcc _ _ (by simp; omega), World.cell?_alloc_lt _ _ _ (by simp; omega)]; exact g1
  have e0 : w2.frozen? ⟨w.heap.size, 0, none⟩ = false := by rw [hff _ _ (by simp; omega), World.frozen?_alloc_past _ _ _ (by omega)]; exact f0
  have e1 : w2.frozen? ⟨w.heap.size, 1, none⟩ = false := by rw [hff _ _ (by simp; omega), World.frozen?_alloc_past _ _ _ (by omega)]; exact f1
  have hB2 : Below w.heap.size w w2 := (hB.alloc (by omega) _).trans (hb2.mono (by simp; omega))
  clear hcc hff hb2 g0 g1 f0 f1
  go_wp2
  · have hl : 100 < (47 :: J).length := by simp; omega
    refine bodyPost_ret (v := .tuple #[.string ⟨#[]⟩, faultV 2 0]) ?_ rfl ⟨by rw [HJ.out, if_pos hl, if_pos hl], ?_⟩
    · simp [results, Tryz.results50, faultV, go_sem, k0, k1]
    · repeat (first | exact hB2 | refine Below.setCell ?_ (by simp) _ | refine Below.alloc ?_ (by simp; omega) _ | refine Below.drew ?_)
  · have hl : ¬ 100 < (47 :: J).length := by simp; omega
    refine bodyPost_ret (v := .tuple #[.string (⟨#[47]⟩ ++ ⟨J.toArray⟩), faultV 0 0]) ?_ rfl ⟨?_, ?_⟩
    · simp [results, Tryz.results50, faultV, go_sem, k0, k1]
    · rw [HJ.out, if_neg hl, if_neg hl]; congr 4
    · repeat (first | exact hB2 | refine Below.setCell ?_ (by simp) _ | refine Below.alloc ?_ (by simp; omega) _ | refine Below.drew ?_)

theorem pathJoin_any (v : Value) (xs : List ByteArray) (w : World) (h : Strs w w.heap.size v xs) :
    Calls Tryz.prog 50 #[v] w fun e w' => e = .returned (joinV xs) ∧ Below w.heap.size w w' := by
  by_cases hok : (compFault xs).1 = 0
  · exact pathJoin_ok v xs w h hok
  · exact pathJoin_bad v xs w h hok

end Go.Proofs.YtoeiaffkedkepaaGreatDoor

/- Slices of attributes in memory: what a slice reads as, kept over new blocks; rows that a call owns, as the list of their cells; append to such a row. Conditions: as each theorem states. -/
namespace Go.Proofs.YtoeiaffkedkepaaGreatDoor
open Go.RowKit

/-- The slice value v reads as the attributes xs, all of it below block B. -/
def Ats (w : World) (B : Nat) (v : Value) (xs : List Attr) : Prop :=
  ∃ a c, v = .slice a xs.length c ∧ xs.length ≤ c ∧ xs.length ≤ 4398046511104 ∧ (∀ e ∈ xs, e.fits) ∧
    (0 < xs.length → ∃ b o, a = some ⟨b, o, none⟩ ∧ b < B ∧ ∀ j, j < xs.length →
      w.cell? ⟨b, o + j * 2, none⟩ = some (.string (xs.getD j A0).n) ∧ w.cell? ⟨b, o + j * 2 + 1, none⟩ = some (.string (xs.getD j A0).v))
theorem Ats.keep {w w' : World} {B : Nat} {v : Value} {xs : List Attr} (h : Ats w B v xs) (hk : ∀ b o, b < B → w'.cell? ⟨b, o, none⟩ = w.cell? ⟨b, o, none⟩) : Ats w' B v xs := by
  obtain ⟨a, c, hv, hc, hl, hf, hx⟩ := h
  refine ⟨a, c, hv, hc, hl, hf, fun h0 => ?_⟩
  obtain ⟨b, o, ha, hB, hj⟩ := hx h0
  refine ⟨b, o, ha, hB, fun j h => ?_⟩
  rw [hk _ _ hB, hk _ _ hB]
  exact hj j h
theorem Ats.below {w w' : World} {B : Nat} {v : Value} {xs : List Attr} (h : Ats w B v xs) (hb : Below B w w') : Ats w' B v xs :=
  h.keep fun b o hB => hb.cell (p := ⟨b, o, none⟩) hB
theorem Ats.more {w : World} {B B' : Nat} {v : Value} {xs : List Attr} (h : Ats w B v xs) (hB : B ≤ B') : Ats w B' v xs := by
  obtain ⟨a, c, hv, hc, hl, hf, hx⟩ := h
  refine ⟨a, c, hv, hc, hl, hf, fun h0 => ?_⟩
  obtain ⟨b, o, ha, hb, hj⟩ := hx h0
  exact ⟨b, o, ha, by omega, hj⟩
/-- Over whatever leaves all blocks of w alone. -/
theorem Ats.up {w w' : World} {v : Value} {xs : List Attr} (h : Ats w w.heap.size v xs) (hb : Below w.heap.size w w') : Ats w' w'.heap.size v xs :=
  (h.below hb).more hb.size
theorem Ats.alloc {w : World} {B : Nat} {v : Value} {xs : List Attr} (h : Ats w B v xs) (hB : B ≤ w.heap.size) (o : Obj) : Ats (w.alloc o) B v xs :=
  h.below ((Below.refl B w).alloc hB o)
theorem Ats.drewN {w : World} {B : Nat} {v : Value} {xs : List Attr} (h : Ats w B v xs) (q : Nat) : Ats (w.drewN q) B v xs :=
  h.keep fun _ _ _ => rfl
theorem Ats.none_ (w : World) (B : Nat) : Ats w B (.slice none 0 0) [] :=
  ⟨none, 0, rfl, by simp, by simp, by simp, fun h => absurd h (by simp)⟩
theorem Ats.fits {w : World} {B : Nat} {v : Value} {xs : List Attr} (h : Ats w B v xs) : ∀ e ∈ xs, e.fits := by
  obtain ⟨_, _, _, _, _, hf, _⟩ := h; exact hf
theorem Ats.form {w : World} {B n : Nat} {v : Value} {xs : List Attr} (h : Ats w B v xs) (hn : xs.length = n) : ∃ a c, v = .slice a n c ∧ n ≤ c := by
  subst hn
  obtain ⟨a, c, hv, hc, _⟩ := h
  exact ⟨a, c, hv, hc⟩
theorem ats_one (w : World) (n : Nat) (hn : n = w.heap.size) (e : Attr) (hf : e.fits) (t : TypeId) : Ats (w.alloc (.cells #[.string e.n, .string e.v] t)) (w.heap.size + 1) (.slice (some ⟨n, 0, none⟩) 1 1) [e] := by
  subst hn
  refine ⟨_, _, rfl, by simp, by simp, by simpa using hf, fun _ => ⟨_, _, rfl, by simp, ?_⟩⟩
  intro j hj
  match j, hj with
  | 0, _ => simp
theorem Ats.cut {w : World} {B : Nat} {a : Option Addr} {n c : Nat} {xs : List Attr} (h : Ats w B (.slice a n c) xs) {k : Nat} (hk : k ≤ n) : Ats w B (.slice a k c) (xs.take k) := by
  obtain ⟨a', c', hv, hc, hl, hf, hx⟩ := h
  injection hv with h1 hn h2
  subst h1 h2 hn
  have hlen : (xs.take k).length = k := by simp; omega
  refine ⟨a, c, by rw [hlen], by omega, by omega, fun e he => hf e (List.mem_of_mem_take he), fun h0 => ?_⟩
  obtain ⟨b, o, ha, hB, hj⟩ := hx (by omega)
  refine ⟨b, o, ha, hB, fun j h => ?_⟩
  have e : (xs.take k).getD j A0 = xs.getD j A0 := by
    rw [List.getD_eq_getElem?_getD, List.getD_eq_getElem?_getD, List.getElem?_take_of_lt (by omega)]
  rw [e]; exact hj j (by omega)
theorem Ats.from_ {w : World} {B b o n c : Nat} {xs : List Attr} (h : Ats w B (.slice (some ⟨b, o, none⟩) n c) xs) {k : Nat} (hk : k ≤ n) : Ats w B (.slice (some ⟨b, o + k * 2, none⟩) (n - k) (c - k)) (xs.drop k) := by
  obtain ⟨a', c', hv, hc, hl, hf, hx⟩ := h
  injection hv with h1 hn h2
  subst h1 h2 hn
  have hlen : (xs.drop k).length = xs.length - k := by simp
  refine ⟨_, c - k, by rw [hlen], by omega, by omega, fun e he => hf e (List.mem_of_mem_drop he), fun h0 => ?_⟩
  obtain ⟨b', o', ha, hB, hj⟩ := hx (by omega)
  injection ha with ha
  injection ha with ha1 ha2
  subst ha1 ha2
  refine ⟨b, _, rfl, hB, fun j h => ?_⟩
  have e : (xs.drop k).getD j A0 = xs.getD (k + j) A0 := by
    rw [List.getD_eq_getElem?_getD, List.getD_eq_getElem?_getD, List.getElem?_drop]
  rw [e]
  have := hj (k + j) (by omega)
  have e1 : o + k * 2 + j * 2 = o + (k + j) * 2 := by omega
  rw [e1]; exact this

/-- Block n holds an attribute. -/
structure AB (w : World) (n : Nat) (x y : ByteArray) : Prop where
  lt : n < w.heap.size
  c0 : w.cell? ⟨n, 0, none⟩ = some (.string x)
  c1 : w.cell? ⟨n, 1, none⟩ = some (.string y)
theorem AB.new (w : World) (x y : ByteArray) (t : TypeId) : AB (w.alloc (.cells #[.string x, .string y] t)) w.heap.size x y :=
  ⟨by simp, by simp, by simp⟩
theorem AB.below {w w' : World} {B n : Nat} {x y : ByteArray} (h : AB w n x y) (hb : Below B w w') (hn : n < B) : AB w' n x y :=
  ⟨Nat.lt_of_lt_of_le h.lt hb.size, (hb.cell (p := ⟨n, 0, none⟩) hn).trans h.c0, (hb.cell (p := ⟨n, 1, none⟩) hn).trans h.c1⟩
theorem AB.alloc {w : World} {n : Nat} {x y : ByteArray} (h : AB w n x y) (o : Obj) : AB (w.alloc o) n x y :=
  h.below ((Below.refl w.heap.size w).alloc (Nat.le_refl _) o) h.lt
theorem AB.at_ {w : World} {n n' : Nat} {x y : ByteArray} (h : AB w n x y) (e : n = n') : AB w n' x y := e ▸ h
theorem AB.drewN {w : World} {n : Nat} {x y : ByteArray} (h : AB w n x y) (k : Nat) : AB (w.drewN k) n x y := ⟨h.lt, h.c0, h.c1⟩
theorem AB.grown {w w' : World} {n : Nat} {x y : ByteArray} {row : Option Nat} (h : AB w n x y) (hg : w.grownBy w' row) (hn : some n ≠ row) : AB w' n x y := by
  have hb := hg.block n h.lt hn
  exact ⟨Nat.lt_of_lt_of_le h.lt hg.size, (World.cell?_of_block (a := ⟨n, 0, none⟩) hb).trans h.c0, (World.cell?_of_block (a := ⟨n, 1, none⟩) hb).trans h.c1⟩


def Attr.cells (e : Attr) : List Value := [.string e.n, .string e.v]
def flatA (es : List Attr) : List Value := es.flatMap Attr.cells
theorem flatA_cons (e : Attr) (es : List Attr) : flatA (e :: es) = .string e.n :: .string e.v :: flatA es := by
  unfold flatA Attr.cells; rw [List.flatMap_cons]; rfl
theorem flatA_append (xs ys : List Attr) : flatA (xs ++ ys) = flatA xs ++ flatA ys := by unfold flatA; rw [List.flatMap_append]
theorem flatA_len : ∀ es : List Attr, (flatA es).length = es.length * 2
  | [] => rfl
  | e :: es => by rw [flatA_cons]; simp only [List.length_cons]; rw [flatA_len es]; omega
theorem flatA_one : ∀ (es : List Attr), ∀ u ∈ flatA es, u.oneCell' = true
  | [], u, h => by simp [flatA] at h
  | e :: es, u, h => by
    rw [flatA_cons] at h
    rcases List.mem_cons.1 h with rfl | h
    · rfl
    · rcases List.mem_cons.1 h with rfl | h
      · rfl
      · exact flatA_one es u h
theorem flatA_get : ∀ (es : List Attr) (j : Nat), j < es.length →
    (flatA es)[j * 2]? = some (.string (es.getD j A0).n) ∧ (flatA es)[j * 2 + 1]? = some (.string (es.getD j A0).v)
  | [], j, h => absurd h (by simp)
  | e :: es, 0, _ => by rw [flatA_cons]; simp
  | e :: es, j + 1, h => by
    have ih := flatA_get es j (by simpa using h)
    have e1 : (j + 1) * 2 = j * 2 + 1 + 1 := by omega
    rw [flatA_cons, e1]
    simpa using ih

theorem ats_own {w : World} {base n : Nat} {v : Value} {es : List Attr} (h : w.ownsRow base 90 2 v n (flatA es)) (hf : ∀ e ∈ es, e.fits) (hl : es.length ≤ 4398046511104) : Ats w w.heap.size v es := by
  have hn : n = es.length := by have := h.1; rw [flatA_len] at this; omega
  subst hn
  rcases h.2 with ⟨hv, h0⟩ | ⟨g, cap, cur, hv, _, hg, hnc, _, _, _⟩
  · have : es = [] := List.eq_nil_of_length_eq_zero h0
    subst this
    rw [hv]; exact Ats.none_ _ _
  · have hlt : g < w.heap.size := by
      rcases Nat.lt_or_ge g w.heap.size with hlt | hge
      · exact hlt
      · rw [Array.getElem?_eq_none hge] at hg; cases hg
    rw [hv] at h
    refine ⟨_, cap, hv, hnc, hl, hf, fun _ => ⟨g, 0, rfl, hlt, fun j hj => ?_⟩⟩
    obtain ⟨h1, h2⟩ := flatA_get es j hj
    rw [← h.cellAt (j * 2) (by omega)] at h1
    rw [← h.cellAt (j * 2 + 1) (by omega)] at h2
    simp only [Nat.zero_add]
    exact ⟨h1, h2⟩

theorem own_attr (w : World) (base n : Nat) (hn : n = w.heap.size) (hb : base ≤ w.heap.size) (e : Attr) : (w.alloc (.cells #[.string e.n, .string e.v] 90)).ownsRow base 90 2 (.slice (some ⟨n, 0, none⟩) 1 1) 1 (flatA [e]) := by
  subst hn
  refine ⟨rfl, .inr ⟨_, 1, _, rfl, hb, heap_alloc_new w _, by omega, by simp [maxLen], rfl, rfl⟩⟩

theorem attr_info : (Tryz.prog.info? 90).map (fun i => (i.zero, i.size, i.bytes)) = some (some (.agg #[.string ByteArray.empty, .string ByteArray.empty]), 2, 32) := by kernel_rfl

/-- append(s, x...): s a row of the call's own (or nil), x any list of attributes. -/
theorem wpList_append_attrs {w : World} {ops : Array Oper} {rest : List Oper} {o : Oper} {a : Act} {Q : Exit → Act → World → Prop} (hgd : o.guard = none) (s x : Operand)
    (ho : o.op = .call { callee := .builtin .append, args := #[s, x], argTypes := #[48, 48] })
    (base : Nat) (v : Value) (n : Nat) (xs : List Attr) (hs : a.eval s = v) (hown : w.ownsRow base 90 2 v n (flatA xs))
    (B : Nat) (u : Value) (es : List Attr) (hx : a.eval x = u) (hA : Ats w B u es)
    (hbytes : (n + es.length) * 32 ≤ 140737488355328) (hbase : base ≤ w.heap.size)
    (h : ∀ v' w', w'.ownsRow base 90 2 v' (n + es.length) (flatA (xs ++ es)) → w.grownBy w' v.ownBlock → wpList Tryz.prog ops Q rest (a.put o.dst v') w') : wpList Tryz.prog ops Q (o :: rest) a w := by
  obtain ⟨i0, hi, hz0, hz1, hz2⟩ := info_parts attr_info
  obtain ⟨ad, c, rfl, hc, hl, hf, hcell⟩ := hA
  by_cases h0 : es.length = 0
  · have he : es = [] := List.eq_nil_of_length_eq_zero h0
    subst he
    cases ad with
    | none =>
      refine wpList_plain hgd fun K hK => ?_
      have hrun : (Builtin.append_ #[48, 48] o.type #[v, .slice none 0 c]).run Tryz.prog w = .ok v w := by
        rcases hown.2 with ⟨rfl, _⟩ | ⟨g, cap, cur, rfl, _, _, hnc, _⟩
        · simp [Builtin.append_, run_underlying Tryz.underlying48, sizeOf, typeInfo, hi, Builtin.lenOf, Builtin.firstCells]
        · simp [Builtin.append_, run_underlying Tryz.underlying48, sizeOf, typeInfo, hi, Builtin.lenOf, Builtin.firstCells, hnc, storeCells]
      unfold Oper.wp
      simp [execOp, ho, resolve, invoke, builtin, hs, hx, hrun, Result.andThen]
      exact hK _ _ (h v w (by simpa using hown) (World.grownBy.refl w _))
    | some ad =>
      refine wpList_append_own w hgd s x 48 ho base 90 i0 _ 2 32 Tryz.underlying48 hi hz0 hz1 hz2 rfl (by omega) v n (flatA xs) hs hown ad _ c (flatA []) hx rfl (by intro j u hu; simp [flatA] at hu) (flatA_one _) (by unfold maxLen; omega) (by omega) hbase fun v' w' h1 h2 _ => h v' w' (by rw [flatA_append]; exact h1) h2
  · obtain ⟨b, of, rfl, hB, hj⟩ := hcell (by omega)
    refine wpList_append_own w hgd s x 48 ho base 90 i0 _ 2 32 Tryz.underlying48 hi hz0 hz1 hz2 rfl (by omega) v n (flatA xs) hs hown ⟨b, of, none⟩ _ c (flatA es) hx (flatA_len es) (by
      intro j u hu
      have hjl : j < es.length * 2 := by
        rw [← flatA_len es]
        exact (List.getElem?_eq_some_iff.1 hu).1
      obtain ⟨q, hq, hr⟩ : ∃ q, q < es.length ∧ (j = q * 2 ∨ j = q * 2 + 1) := ⟨j / 2, by omega, by omega⟩
      obtain ⟨h1, h2⟩ := flatA_get es q hq
      obtain ⟨g1, g2⟩ := hj q hq
      have hadd : (⟨b, of, none⟩ : Addr).add j = ⟨b, of + j, none⟩ := by unfold Addr.add; split <;> simp_all
      rw [hadd]
      rcases hr with rfl | rfl
      · rw [h1] at hu; rw [← Option.some.inj hu]; exact g1
      · rw [h2] at hu; rw [← Option.some.inj hu]; exact g2) (flatA_one _) (by unfold maxLen; omega) (by omega) hbase fun v' w' h1 h2 _ => h v' w' (by rw [flatA_append]; exact h1) h2

end Go.Proofs.YtoeiaffkedkepaaGreatDoor

/- The reference's AttrCode at every attribute. Conditions: the strings are of at most the model's longest length. -/
namespace Go.Proofs.YtoeiaffkedkepaaGreatDoor
open Go.RowKit

set_option maxHeartbeats 400000 in
theorem attrCode_any (x y : ByteArray) (w : World) (hx : x.size ≤ maxLen) (hy : y.size ≤ maxLen) :
    Calls Tryz.prog 58 #[.agg #[.string x, .string y]] w fun e w' => e = .returned (.int .i64 (codeA ⟨x, y⟩)) ∧ Below w.heap.size w w' := by
  have hc := fun W => validName_any x W hx
  unfold maxLen at hy
  have HF := Lib.hid (show codeA ⟨x, y⟩ = if vname x = true then (if 20 < y.size then 10 else 0) else 12 from rfl)
  generalize codeA ⟨x, y⟩ = q at *
  cases hv : vname x with
  | false =>
    rw [hv] at hc HF
    rw [if_neg (by simp)] at HF
    clear hv
    go_enter Tryz.func58, Tryz.ntmps58
    go_wp2_with fail
    refine (hc _).mono ?_
    rintro e w' ⟨rfl, rfl⟩
    go_wp2
    go_ret
    exact ⟨ret_int HF.out.symm, (Below.refl _ _).alloc (Nat.le_refl _) _⟩
  | true =>
    rw [hv] at hc HF
    rw [if_pos rfl] at HF
    clear hv
    go_enter Tryz.func58, Tryz.ntmps58
    go_wp2_with fail
    refine (hc _).mono ?_
    rintro e w' ⟨rfl, rfl⟩
    go_wp2
    · go_ret
      exact ⟨ret_int (by rw [HF.out, if_pos (by omega)]), (Below.refl _ _).alloc (Nat.le_refl _) _⟩
    · go_ret
      exact ⟨ret_int (by rw [HF.out, if_neg (by omega)]), (Below.refl _ _).alloc (Nat.le_refl _) _⟩

end Go.Proofs.YtoeiaffkedkepaaGreatDoor

/- checkAttr, xattr.Validate and the reference's ValidateAttrs at every list: too many, or the first bad attribute's code and place. Conditions: the slice's cells lie in memory as they read. -/
namespace Go.Proofs.YtoeiaffkedkepaaGreatDoor
open Go.RowKit

theorem strs_one (w : World) (n : Nat) (hn : n = w.heap.size) (x : ByteArray) (hx : x.size ≤ maxLen) (t : TypeId) : Strs (w.alloc (.cells #[.string x] t)) (w.heap.size + 1) (.slice (some ⟨n, 0, none⟩) 1 1) [x] := by
  subst hn
  refine ⟨_, _, rfl, by simp, by simp, by simpa using hx, fun _ => ⟨_, _, rfl, by simp, ?_⟩⟩
  intro j hj
  match j, hj with
  | 0, _ => simp
theorem joinF_one (x : ByteArray) : (joinF [x]).1 = if vname x = true then 0 else 12 := by
  cases h : vname x with
  | true =>
    have h1 : firstBad [x] = 1 := firstBad_miss (by intro j hj; match j, hj with | 0, _ => simpa using h)
    have h2 : compFault [x] = (0, 0) := by unfold compFault; rw [h1]; simp
    have h3 : (pstr [x]).length ≤ 100 := by
      unfold pstr
      rw [if_neg (by simp)]
      have := (vname_size h).2
      simp; omega
    unfold joinF
    rw [h2, if_pos rfl, if_neg (by omega)]
    rfl
  | false =>
    have h1 : firstBad [x] = 0 := firstBad_hit (k := 0) (by simp) (by simpa using h) (fun j hj => absurd hj (by omega))
    have h2 : compFault [x] = (12, 0) := by unfold compFault; rw [h1]; simp
    unfold joinF
    rw [h2]
    simp
theorem codeA_form (x y : ByteArray) : codeA ⟨x, y⟩ = if (joinF [x]).1 = 0 then (if 20 < y.size then 10 else 0) else 12 := by
  rw [joinF_one]
  unfold codeA
  cases vname x <;> simp

set_option maxHeartbeats 400000 in
theorem checkAttr_any (x y : ByteArray) (w : World) (hx : x.size ≤ maxLen) (hy : y.size ≤ maxLen) :
    Calls Tryz.prog 84 #[.agg #[.string x, .string y]] w fun e w' => e = .returned (.int .i64 (codeA ⟨x, y⟩)) ∧ Below w.heap.size w w' := by
  have HC := Lib.hid (fun (W : World) (v : Value) (h : Strs W W.heap.size v [x]) => pathJoin_any v [x] W h)
  have HF := Lib.hid (codeA_form x y)
  have HS := Lib.hid (fun (W : World) (n : Nat) (hn : n = W.heap.size) (t : TypeId) => (strs_one W n hn x hx t).more (B' := W.heap.size + 1) (Nat.le_refl _))
  unfold joinV faultV at HC
  generalize codeA ⟨x, y⟩ = q at *
  generalize joinS [x] = S at *
  generalize (joinF [x]).2 = i at *
  unfold maxLen at hy
  by_cases hc : (joinF [x]).1 = 0
  · rw [hc] at HC HF
    rw [if_pos rfl] at HF
    clear hc
    go_enter Tryz.func84, Tryz.ntmps84
    go_wp2_with fail
    refine (HC.out _ _ (by simpa using HS.out (w.alloc (.cells #[.string x, .string y] 90)) _ (by simp) 9)).mono ?_
    rintro e w' ⟨rfl, hb'⟩
    have bw : Below w.heap.size w w' := (((Below.refl _ _).alloc (Nat.le_refl _) _).alloc (by simp) _).trans (hb'.mono (by first | omega | (simp; done) | (simp; omega)))
    have bws := bw.size
    obtain ⟨gl, g0, g1⟩ := ((AB.new w x y 90).alloc (.cells #[.string x] 9)).below hb' (by first | omega | (simp; done) | (simp; omega))
    clear hb' g0
    by_cases h20 : 20 < y.size
    · rw [if_pos h20] at HF
      go_wp2
      go_ret
      refine ⟨ret_int HF.out.symm, ?_⟩
      repeat (first | exact bw | refine Below.setCell ?_ (by first | omega | (simp; done) | (simp; omega)) _ | refine Below.alloc ?_ (by first | omega | (simp; done) | (simp; omega)) _ | refine Below.drew ?_)
    · rw [if_neg h20] at HF
      go_wp2
      go_ret
      refine ⟨ret_int HF.out.symm, ?_⟩
      repeat (first | exact bw | refine Below.setCell ?_ (by first | omega | (simp; done) | (simp; omega)) _ | refine Below.alloc ?_ (by first | omega | (simp; done) | (simp; omega)) _ | refine Below.drew ?_)
  · rw [if_neg hc] at HF
    generalize (joinF [x]).1 = c at *
    have hc1 : (c != 0) = true := by simpa using hc
    have hc2 : (c == 0) = false := by simpa using hc
    clear hc
    go_enter Tryz.func84, Tryz.ntmps84
    go_wp2_with fail
    refine (HC.out _ _ (by simpa using HS.out (w.alloc (.cells #[.string x, .string y] 90)) _ (by simp) 9)).mono ?_
    rintro e w' ⟨rfl, hb'⟩
    have bw : Below w.heap.size w w' := (((Below.refl _ _).alloc (Nat.le_refl _) _).alloc (by simp) _).trans (hb'.mono (by first | omega | (simp; done) | (simp; omega)))
    have bws := bw.size
    clear hb'
    go_wp2
    go_ret
    refine ⟨ret_int HF.out.symm, ?_⟩
    repeat (first | exact bw | refine Below.setCell ?_ (by first | omega | (simp; done) | (simp; omega)) _ | refine Below.alloc ?_ (by first | omega | (simp; done) | (simp; omega)) _ | refine Below.drew ?_)

def valAV (xs : List Attr) : Value := faultV (valA xs).1 (valA xs).2
theorem valAV_hit {xs : List Attr} (h : ¬ 6 < xs.length) {k : Nat} {c : Int} (hk : k < xs.length) (hc : codeL xs k = c) (hn : ¬ c = 0) (hA : ∀ j, j < k → codeL xs j = 0) : valAV xs = faultV c k := by
  unfold valAV; rw [valA_hit h hk (by rw [hc]; exact hn) hA, hc]
theorem valAV_miss {xs : List Attr} (h : ¬ 6 < xs.length) (hA : ∀ j, j < xs.length → codeL xs j = 0) : valAV xs = faultV 0 0 := by
  unfold valAV; rw [valA_miss h hA]
theorem codeL_of {xs : List Attr} {k : Nat} {x y p : ByteArray} (hy : xs.getD k A0 = ⟨x, y⟩) (hp : prevN xs k = p) :
    codeL xs k = if codeA ⟨x, y⟩ = 0 then (if y = ByteArray.empty ∨ ltS p x = false then 5 else 0) else codeA ⟨x, y⟩ := by
  unfold codeL; rw [hy, hp]
theorem prevN_succ {xs : List Attr} {k : Nat} {x y : ByteArray} (hy : xs.getD k A0 = ⟨x, y⟩) : prevN xs (k + 1) = x := by
  unfold prevN; rw [if_neg (by omega), Nat.add_sub_cancel, hy]
theorem leqS (x p : ByteArray) : (Op.bytesLess x.toList p.toList || x.toList == p.toList) = !ltS p x := by
  have e : Op.bytesLess x.toList p.toList = ltS x p := rfl
  rw [e, beq_str]
  cases h : ltS p x with
  | true => rw [ltS_asymm h, decide_eq_false (fun e => by subst e; rw [ltS_irrefl] at h; cases h)]; rfl
  | false =>
    cases h2 : ltS x p with
    | true => rfl
    | false => rw [decide_eq_true (ltS_eq h2 h)]; rfl

set_option maxHeartbeats 1000000 in
theorem xvalidate_any (v : Value) (xs : List Attr) (w : World) (h : Ats w w.heap.size v xs) :
    Calls Tryz.prog 64 #[v] w fun e w' => e = .returned (valAV xs) ∧ Below w.heap.size w w' := by
  obtain ⟨a, c, rfl, hc, hl, hf, hx⟩ := h
  by_cases h6 : 6 < xs.length
  · have hm := Lib.hid (show valAV xs = faultV 2 0 by unfold valAV; rw [valA_many h6])
    clear hx hf
    go_enter Tryz.func64, Tryz.ntmps64
    go_wp2
    exact bodyPost_ret (v := faultV 2 0) (by simp [results, Tryz.results64, faultV, go_sem]) rfl ⟨by rw [hm.out], (Below.refl _ _).alloc (Nat.le_refl _) _⟩
  · have H6 := Lib.hid h6
    have h62 : xs.length ≤ 6 := by omega
    have h6b : decide ((6 : Int) < (xs.length : Int)) = false := by simp; omega
    have HX := Lib.hid hx
    have HFT := Lib.hid hf
    clear hf h6 hx
    go_enter Tryz.func64, Tryz.ntmps64
    go_wp2
    go_loopg [3, 4, 5, 6, 13] xs.length (fun gg s3 _ _ _ s13 wr => ∃ (kk : Nat) (p : ByteArray), kk ≤ xs.length ∧ xs.length - kk ≤ gg ∧ s13 = .int .i64 kk ∧ s3 = .string p ∧ Aside (prevN xs kk = p) ∧ Aside (Below w.heap.size w wr) ∧ Aside (FBox wr w.heap.size 0 0) ∧ Aside (∀ j, j < kk → codeL xs j = 0))
    case atStart => exact ⟨0, ByteArray.empty, Nat.zero_le _, by omega, rfl, rfl, (show prevN xs 0 = _ from rfl), (Below.refl _ _).alloc (Nat.le_refl _) _, FBox.new w 0 0 _, fun j hj => absurd hj (Nat.not_lt_zero _)⟩
    case round =>
      obtain ⟨kk, p, hkk, hg, rfl, rfl, PV, BW, FB, A⟩ := hrel
      by_cases hlt : kk < xs.length
      · have hltz : (kk : Int) < (xs.length : Int) := by omega
        obtain ⟨b, o, rfl, hb, hj⟩ := HX.out (by omega)
        have g0 : wr.cell? ⟨b, o + kk * 2, none⟩ = some (.string (xs.getD kk A0).n) := (BW.out.cell (p := ⟨b, _, none⟩) hb).trans (hj kk hlt).1
        have g1 : wr.cell? ⟨b, o + kk * 2 + 1, none⟩ = some (.string (xs.getD kk A0).v) := (BW.out.cell (p := ⟨b, _, none⟩) hb).trans (hj kk hlt).2
        have hfit := HFT.out _ (atD_mem hlt)
        clear hj
        generalize hy : xs.getD kk A0 = y at g0 g1 hfit
        obtain ⟨x, z⟩ := y
        have Y := Lib.hid hy
        have CL := Lib.hid (codeL_of hy PV.out)
        have PN := Lib.hid (prevN_succ hy)
        clear hy
        have hcall := Lib.hid (fun W => checkAttr_any x z W hfit.1 hfit.2)
        clear hfit
        generalize codeA ⟨x, z⟩ = q at hcall CL
        have hs0 := BW.out.size
        have hl0 := FB.out.lt
        by_cases hq0 : q = 0
        · subst hq0
          rw [if_pos rfl] at CL
          by_cases hz : z = ByteArray.empty
          · rw [if_pos (Or.inl hz)] at CL
            have hz1 : z.toList.isEmpty = true := by rw [isEmpty_str]; simpa using hz
            clear hz
            go_wp2_with fail
            refine (hcall.out _).mono ?_
            rintro e w' ⟨rfl, hb'⟩
            have bw : Below wr.heap.size wr w' := ((Below.refl _ _).alloc (Nat.le_refl _) _).trans (hb'.mono (by first | omega | (simp; done) | (simp; omega)))
            have hB1 : Below w.heap.size w w' := BW.out.trans (bw.mono BW.out.size)
            have FB1 := FB.out.below bw FB.out.lt
            obtain ⟨gl, k0, k1⟩ := (AB.new wr x z 90).below hb' (by first | omega | (simp; done) | (simp; omega))
            have bs1 := bw.size
            clear hb' bw
            obtain ⟨l1, a0, a1, f0, f1⟩ := FB1
            go_wp2
            exact bodyPost_ret (v := faultV 5 kk) (by simp [results, Tryz.results64, faultV, go_sem, a0, a1]) rfl ⟨by rw [valAV_hit H6.out hlt CL.out (by omega) A.out], (hB1.setCell (by first | omega | (simp; done) | (simp; omega)) _).setCell (by first | omega | (simp; done) | (simp; omega)) _⟩
          · have hz1 : z.toList.isEmpty = false := by rw [isEmpty_str]; simpa using hz
            cases hlq : ltS p x with
            | false =>
              rw [if_pos (Or.inr hlq)] at CL
              have hle : (Op.bytesLess x.toList p.toList || x.toList == p.toList) = true := by rw [leqS, hlq]; rfl
              clear hz hlq
              go_wp2_with fail
              refine (hcall.out _).mono ?_
              rintro e w' ⟨rfl, hb'⟩
              have bw : Below wr.heap.size wr w' := ((Below.refl _ _).alloc (Nat.le_refl _) _).trans (hb'.mono (by first | omega | (simp; done) | (simp; omega)))
              have hB1 : Below w.heap.size w w' := BW.out.trans (bw.mono BW.out.size)
              have FB1 := FB.out.below bw FB.out.lt
              obtain ⟨gl, k0, k1⟩ := (AB.new wr x z 90).below hb' (by first | omega | (simp; done) | (simp; omega))
              have bs1 := bw.size
              clear hb' bw
              obtain ⟨l1, a0, a1, f0, f1⟩ := FB1
              go_wp2
              exact bodyPost_ret (v := faultV 5 kk) (by simp [results, Tryz.results64, faultV, go_sem, a0, a1]) rfl ⟨by rw [valAV_hit H6.out hlt CL.out (by omega) A.out], (hB1.setCell (by first | omega | (simp; done) | (simp; omega)) _).setCell (by first | omega | (simp; done) | (simp; omega)) _⟩
            | true =>
              rw [if_neg (by rintro (h | h); exact hz h; rw [hlq] at h; cases h)] at CL
              have hle : (Op.bytesLess x.toList p.toList || x.toList == p.toList) = false := by rw [leqS, hlq]; rfl
              clear hz hlq
              go_wp2_with fail
              refine (hcall.out _).mono ?_
              rintro e w' ⟨rfl, hb'⟩
              have bw : Below wr.heap.size wr w' := ((Below.refl _ _).alloc (Nat.le_refl _) _).trans (hb'.mono (by first | omega | (simp; done) | (simp; omega)))
              have hB1 : Below w.heap.size w w' := BW.out.trans (bw.mono BW.out.size)
              have FB1 := FB.out.below bw FB.out.lt
              obtain ⟨gl, k0, k1⟩ := (AB.new wr x z 90).below hb' (by first | omega | (simp; done) | (simp; omega))
              have bs1 := bw.size
              clear hb' bw
              have FF := Lib.hid FB1
              clear FB1
              go_wp2
              go_roundg (xs.length - (kk + 1))
              case measure => omega
              case rel =>
                refine ⟨kk + 1, x, by omega, by omega, by go_num, rfl, PN.out, hB1, FF.out, (show Aside _ from fun j hj => ?_)⟩
                by_cases e : j = kk
                · subst e; exact CL.out
                · exact A.out j (by omega)
        · rw [if_neg hq0] at CL
          have hq1 : (q == 0) = false := by simpa using hq0
          have hq2 : (q != 0) = true := by simpa using hq0
          have HQ := Lib.hid hq0
          clear hq0
          go_wp2_with fail
          refine (hcall.out _).mono ?_
          rintro e w' ⟨rfl, hb'⟩
          have bw : Below wr.heap.size wr w' := ((Below.refl _ _).alloc (Nat.le_refl _) _).trans (hb'.mono (by first | omega | (simp; done) | (simp; omega)))
          have hB1 : Below w.heap.size w w' := BW.out.trans (bw.mono BW.out.size)
          have FB1 := FB.out.below bw FB.out.lt
          obtain ⟨gl, k0, k1⟩ := (AB.new wr x z 90).below hb' (by first | omega | (simp; done) | (simp; omega))
          have bs1 := bw.size
          clear hb' bw
          obtain ⟨l1, a0, a1, f0, f1⟩ := FB1
          go_wp2
          exact bodyPost_ret (v := faultV q kk) (by simp [results, Tryz.results64, faultV, go_sem, a0, a1]) rfl ⟨by rw [valAV_hit H6.out hlt CL.out HQ.out A.out], (hB1.setCell (by first | omega | (simp; done) | (simp; omega)) _).setCell (by first | omega | (simp; done) | (simp; omega)) _⟩
      · have hltz : ¬ (kk : Int) < (xs.length : Int) := by omega
        have e : kk = xs.length := by omega
        have E : Aside (kk = xs.length) := e
        clear e
        obtain ⟨l1, a0, a1, k0, k1⟩ := FB.out
        have hs0 := BW.out.size
        go_wp2
        exact bodyPost_ret (v := faultV 0 0) (by simp [results, Tryz.results64, faultV, go_sem, a0, a1]) rfl ⟨by rw [valAV_miss H6.out fun j hj => A.out j (by have := E.out; omega)], (BW.out.setCell (by first | omega | (simp; done) | (simp; omega)) _).setCell (by first | omega | (simp; done) | (simp; omega)) _⟩

set_option maxHeartbeats 1000000 in
theorem refValidate_any (v : Value) (xs : List Attr) (w : World) (h : Ats w w.heap.size v xs) :
    Calls Tryz.prog 42 #[v] w fun e w' => e = .returned (valAV xs) ∧ Below w.heap.size w w' := by
  obtain ⟨a, c, rfl, hc, hl, hf, hx⟩ := h
  by_cases h6 : 6 < xs.length
  · have hm := Lib.hid (show valAV xs = faultV 2 0 by unfold valAV; rw [valA_many h6])
    clear hx hf
    go_enter Tryz.func42, Tryz.ntmps42
    go_wp2_with fail
    refine (newFault_any _ _ _).mono ?_
    rintro e w' ⟨rfl, hb'⟩
    have B1 : Below w.heap.size w w' := ((Below.refl _ _).alloc (Nat.le_refl _) _).trans (hb'.mono (by first | omega | (simp; done) | (simp; omega)))
    obtain ⟨l1, a0, a1, f0, f1⟩ := (FBox.new w 0 0 28).below hb' (by first | omega | (simp; done) | (simp; omega))
    go_wp2
    exact bodyPost_ret (v := faultV 2 0) (by simp [results, Tryz.results42, faultV, go_sem, a0, a1]) rfl ⟨by rw [hm.out], (B1.setCell (by first | omega | (simp; done) | (simp; omega)) _).setCell (by first | omega | (simp; done) | (simp; omega)) _⟩
  · have H6 := Lib.hid h6
    have h62 : xs.length ≤ 6 := by omega
    have h6b : decide ((6 : Int) < (xs.length : Int)) = false := by simp; omega
    have HX := Lib.hid hx
    have HFT := Lib.hid hf
    clear hf h6 hx
    go_enter Tryz.func42, Tryz.ntmps42
    go_wp2
    go_loopg [3, 4] xs.length (fun gg s3 _ wr => ∃ (kk : Nat), kk ≤ xs.length ∧ xs.length - kk ≤ gg ∧ s3 = .int .i64 kk ∧ Aside (Below w.heap.size w wr) ∧ Aside (FBox wr w.heap.size 0 0) ∧ Aside (∀ j, j < kk → codeL xs j = 0))
    case atStart => exact ⟨0, Nat.zero_le _, by omega, rfl, (Below.refl _ _).alloc (Nat.le_refl _) _, FBox.new w 0 0 _, fun j hj => absurd hj (Nat.not_lt_zero _)⟩
    case round =>
      obtain ⟨kk, hkk, hg, rfl, BW, FB, A⟩ := hrel
      by_cases hlt : kk < xs.length
      · have hltz : (kk : Int) < (xs.length : Int) := by omega
        have hk0 : (0 : Int) ≤ (kk : Int) := Int.natCast_nonneg _
        obtain ⟨b, o, rfl, hb, hj⟩ := HX.out (by omega)
        have g0 : wr.cell? ⟨b, o + kk * 2, none⟩ = some (.string (xs.getD kk A0).n) := (BW.out.cell (p := ⟨b, _, none⟩) hb).trans (hj kk hlt).1
        have g1 : wr.cell? ⟨b, o + kk * 2 + 1, none⟩ = some (.string (xs.getD kk A0).v) := (BW.out.cell (p := ⟨b, _, none⟩) hb).trans (hj kk hlt).2
        have hfit := HFT.out _ (atD_mem hlt)
        have HP := Lib.hid (show 0 < kk → prevN xs kk = (xs.getD (kk - 1) A0).n ∧ wr.cell? ⟨b, o + (kk - 1) * 2, none⟩ = some (.string (xs.getD (kk - 1) A0).n) from fun h0 => ⟨by unfold prevN; rw [if_neg (by omega)], (BW.out.cell (p := ⟨b, _, none⟩) hb).trans (hj (kk - 1) (by omega)).1⟩)
        clear hj
        generalize hy : xs.getD kk A0 = y at g0 g1 hfit
        obtain ⟨x, z⟩ := y
        have Y := Lib.hid hy
        have CL := Lib.hid (codeL_of hy (p := prevN xs kk) rfl)
        clear hy
        have hcall := Lib.hid (fun W => attrCode_any x z W hfit.1 hfit.2)
        have HVN := Lib.hid (show codeA ⟨x, z⟩ = 0 → x ≠ ByteArray.empty from fun h e => by have := (vname_size (codeA_ok h).1).1; simp only at this; rw [e] at this; simp at this)
        clear hfit
        generalize codeA ⟨x, z⟩ = q at hcall CL HVN
        have hs0 := BW.out.size
        have hl0 := FB.out.lt
        by_cases hq0 : q = 0
        · subst hq0
          have hxne := HVN.out rfl
          rw [if_pos rfl] at CL
          by_cases hz : z = ByteArray.empty
          · rw [if_pos (Or.inl hz)] at CL
            have hz1 : z.toList.isEmpty = true := by rw [isEmpty_str]; simpa using hz
            clear hz hxne HVN HP
            go_wp2_with fail
            refine (hcall.out _).mono ?_
            rintro e w' ⟨rfl, hb'⟩
            have hB1 : Below w.heap.size w w' := BW.out.trans (hb'.mono BW.out.size)
            have FB1 := Lib.hid (FB.out.below hb' FB.out.lt)
            have k0 := (hb'.cell (p := ⟨b, o + kk * 2, none⟩) (Nat.lt_of_lt_of_le hb hs0)).trans g0
            have k1 := (hb'.cell (p := ⟨b, o + kk * 2 + 1, none⟩) (Nat.lt_of_lt_of_le hb hs0)).trans g1
            have bs1 := hb'.size
            have FBX := FB1
            clear hb' g0 g1
            go_wp2_with fail
            go_quiet (fail)
            go_wp2_with fail
            refine (newFault_any _ _ _).mono ?_
            rintro e w2 ⟨rfl, hb2⟩
            obtain ⟨l1, a0, a1, f0, f1⟩ := (FB1.out.drewN nq).below hb2 FB1.out.lt
            have B2 : Below w.heap.size w w2 := (below_drewN hB1 nq).trans (hb2.mono (Nat.le_trans hs0 bs1))
            have bs2 := B2.size
            go_wp2
            exact bodyPost_ret (v := faultV 5 kk) (by simp [results, Tryz.results42, faultV, go_sem, a0, a1]) rfl ⟨by rw [valAV_hit H6.out hlt CL.out (by omega) A.out], (B2.setCell (by first | omega | (simp; done) | (simp; omega)) _).setCell (by first | omega | (simp; done) | (simp; omega)) _⟩
          · have hz1 : z.toList.isEmpty = false := by rw [isEmpty_str]; simpa using hz
            cases kk with
            | zero =>
              rw [if_neg (by rintro (h | h); exact hz h; unfold prevN at h; rw [if_pos rfl, ltS_empty] at h; simp at h; exact hxne h)] at CL
              clear hz hxne HVN HP
              have g0 : wr.cell? ⟨b, o, none⟩ = some (.string x) := by simpa using g0
              have g1 : wr.cell? ⟨b, o + 1, none⟩ = some (.string z) := by simpa using g1
              go_wp2_with fail
              refine (hcall.out _).mono ?_
              rintro e w' ⟨rfl, hb'⟩
              have hB1 : Below w.heap.size w w' := BW.out.trans (hb'.mono BW.out.size)
              have FB1 := Lib.hid (FB.out.below hb' FB.out.lt)
              have k0 := (hb'.cell (p := ⟨b, o, none⟩) (Nat.lt_of_lt_of_le hb hs0)).trans g0
              have k1 := (hb'.cell (p := ⟨b, o + 1, none⟩) (Nat.lt_of_lt_of_le hb hs0)).trans g1
              have bs1 := hb'.size
              clear hb' g0 g1
              go_wp2_with fail
              go_quiet (fail)
              go_wp2_with fail
              go_roundg (xs.length - (0 + 1))
              case measure => omega
              case rel =>
                refine ⟨0 + 1, by omega, by omega, by go_num, below_drewN hB1 nq, FB1.out.drewN nq, (show Aside _ from fun j hj => ?_)⟩
                by_cases e : j = 0
                · subst e; exact CL.out
                · exact A.out j (by omega)
            | succ m =>
              obtain ⟨hp1, hp2⟩ := HP.out (by omega)
              rw [Nat.add_sub_cancel] at hp1 hp2
              rw [hp1] at CL
              generalize (xs.getD m A0).n = p at CL hp2
              clear HP hp1 hxne HVN
              cases hlq : ltS p x with
              | false =>
                rw [if_pos (Or.inr hlq)] at CL
                have hle : (Op.bytesLess x.toList p.toList || x.toList == p.toList) = true := by rw [leqS, hlq]; rfl
                clear hz hlq
                go_wp2_with fail
                refine (hcall.out _).mono ?_
                rintro e w' ⟨rfl, hb'⟩
                have hB1 : Below w.heap.size w w' := BW.out.trans (hb'.mono BW.out.size)
                have FB1 := Lib.hid (FB.out.below hb' FB.out.lt)
                have k0 := (hb'.cell (p := ⟨b, o + (m + 1) * 2, none⟩) (Nat.lt_of_lt_of_le hb hs0)).trans g0
                have k1 := (hb'.cell (p := ⟨b, o + (m + 1) * 2 + 1, none⟩) (Nat.lt_of_lt_of_le hb hs0)).trans g1
                have bs1 := hb'.size
                have k2 := (hb'.cell (p := ⟨b, o + m * 2, none⟩) (Nat.lt_of_lt_of_le hb hs0)).trans hp2
                clear hb' g0 g1 hp2
                go_wp2_with fail
                go_quiet (fail)
                go_wp2_with fail
                refine (newFault_any _ _ _).mono ?_
                rintro e w2 ⟨rfl, hb2⟩
                obtain ⟨l1, a0, a1, f0, f1⟩ := (FB1.out.drewN nq).below hb2 FB1.out.lt
                have B2 : Below w.heap.size w w2 := (below_drewN hB1 nq).trans (hb2.mono (Nat.le_trans hs0 bs1))
                have bs2 := B2.size
                go_wp2
                exact bodyPost_ret (v := faultV 5 (m + 1 : Nat)) (by simp [results, Tryz.results42, faultV, go_sem, a0, a1]) rfl ⟨by rw [valAV_hit H6.out hlt CL.out (by omega) A.out], (B2.setCell (by first | omega | (simp; done) | (simp; omega)) _).setCell (by first | omega | (simp; done) | (simp; omega)) _⟩
              | true =>
                rw [if_neg (by rintro (h | h); exact hz h; rw [hlq] at h; cases h)] at CL
                have hle : (Op.bytesLess x.toList p.toList || x.toList == p.toList) = false := by rw [leqS, hlq]; rfl
                clear hz hlq
                go_wp2_with fail
                refine (hcall.out _).mono ?_
                rintro e w' ⟨rfl, hb'⟩
                have hB1 : Below w.heap.size w w' := BW.out.trans (hb'.mono BW.out.size)
                have FB1 := Lib.hid (FB.out.below hb' FB.out.lt)
                have k0 := (hb'.cell (p := ⟨b, o + (m + 1) * 2, none⟩) (Nat.lt_of_lt_of_le hb hs0)).trans g0
                have k1 := (hb'.cell (p := ⟨b, o + (m + 1) * 2 + 1, none⟩) (Nat.lt_of_lt_of_le hb hs0)).trans g1
                have bs1 := hb'.size
                have k2 := (hb'.cell (p := ⟨b, o + m * 2, none⟩) (Nat.lt_of_lt_of_le hb hs0)).trans hp2
                clear hb' g0 g1 hp2
                go_wp2_with fail
                go_quiet (fail)
                go_wp2_with fail
                go_roundg (xs.length - ((m + 1) + 1))
                case measure => omega
                case rel =>
                  refine ⟨(m + 1) + 1, by omega, by omega, by go_num, below_drewN hB1 nq, FB1.out.drewN nq, (show Aside _ from fun j hj => ?_)⟩
                  by_cases e : j = (m + 1)
                  · subst e; exact CL.out
                  · exact A.out j (by omega)
        · rw [if_neg hq0] at CL
          have hq1 : (q == 0) = false := by simpa using hq0
          have hq2 : (q != 0) = true := by simpa using hq0
          have HQ := Lib.hid hq0
          clear hq0 HVN HP
          go_wp2_with fail
          refine (hcall.out _).mono ?_
          rintro e w' ⟨rfl, hb'⟩
          have hB1 : Below w.heap.size w w' := BW.out.trans (hb'.mono BW.out.size)
          have FB1 := Lib.hid (FB.out.below hb' FB.out.lt)
          have k0 := (hb'.cell (p := ⟨b, o + kk * 2, none⟩) (Nat.lt_of_lt_of_le hb hs0)).trans g0
          have k1 := (hb'.cell (p := ⟨b, o + kk * 2 + 1, none⟩) (Nat.lt_of_lt_of_le hb hs0)).trans g1
          have bs1 := hb'.size
          clear hb' g0 g1
          go_wp2_with fail
          go_quiet (fail)
          go_wp2_with fail
          refine (newFault_any _ _ _).mono ?_
          rintro e w2 ⟨rfl, hb2⟩
          obtain ⟨l1, a0, a1, f0, f1⟩ := (FB1.out.drewN nq).below hb2 FB1.out.lt
          have B2 : Below w.heap.size w w2 := (below_drewN hB1 nq).trans (hb2.mono (Nat.le_trans hs0 bs1))
          have bs2 := B2.size
          go_wp2
          exact bodyPost_ret (v := faultV q kk) (by simp [results, Tryz.results42, faultV, go_sem, a0, a1]) rfl ⟨by rw [valAV_hit H6.out hlt CL.out HQ.out A.out], (B2.setCell (by first | omega | (simp; done) | (simp; omega)) _).setCell (by first | omega | (simp; done) | (simp; omega)) _⟩
      · have hltz : ¬ (kk : Int) < (xs.length : Int) := by omega
        have e : kk = xs.length := by omega
        have E : Aside (kk = xs.length) := e
        clear e
        obtain ⟨l1, a0, a1, k0, k1⟩ := FB.out
        have hs0 := BW.out.size
        go_wp2
        exact bodyPost_ret (v := faultV 0 0) (by simp [results, Tryz.results42, faultV, go_sem, a0, a1]) rfl ⟨by rw [valAV_miss H6.out fun j hj => A.out j (by have := E.out; omega)], (BW.out.setCell (by first | omega | (simp; done) | (simp; omega)) _).setCell (by first | omega | (simp; done) | (simp; omega)) _⟩

end Go.Proofs.YtoeiaffkedkepaaGreatDoor

/- Plain facts on sorted lists of names: sorting and compacting gives the one strictly ascending list with the same members; so does inserting the names one by one. No program. -/
namespace Go.Proofs.YtoeiaffkedkepaaGreatDoor
open Go.RowKit

def Asc (l : List ByteArray) : Prop := l.Pairwise (fun a b => ltS a b = true)
theorem asc_unique : ∀ {xs ys : List ByteArray}, Asc xs → Asc ys → (∀ x, x ∈ xs ↔ x ∈ ys) → xs = ys
  | [], [], _, _, _ => rfl
  | [], y :: ys, _, _, h => absurd ((h y).2 (by simp)) (by simp)
  | x :: xs, [], _, _, h => absurd ((h x).1 (by simp)) (by simp)
  | x :: xs, y :: ys, hx, hy, h => by
    unfold Asc at hx hy
    rw [List.pairwise_cons] at hx hy
    have e : x = y := by
      rcases List.mem_cons.1 ((h x).1 (by simp)) with e | h1
      · exact e
      · rcases List.mem_cons.1 ((h y).2 (by simp)) with e | h2
        · exact e.symm
        · have := ltS_asymm (hx.1 y h2)
          rw [hy.1 x h1] at this; cases this
    subst e
    rw [asc_unique hx.2 hy.2 (fun z => ?_)]
    constructor
    · intro hz
      rcases List.mem_cons.1 ((h z).1 (List.mem_cons_of_mem _ hz)) with e | h1
      · subst e; have := hx.1 z hz; rw [ltS_irrefl] at this; cases this
      · exact h1
    · intro hz
      rcases List.mem_cons.1 ((h z).2 (List.mem_cons_of_mem _ hz)) with e | h1
      · subst e; have := hy.1 z hz; rw [ltS_irrefl] at this; cases this
      · exact h1

/-- The names of a list, as lists of bytes. -/
def nmL (L : List Attr) : List (List UInt8) := L.map (fun a => a.n.data.toList)
def sortN (ss : List (List UInt8)) : List (List UInt8) := ss.mergeSort fun x y => decide (x ≤ y)
def namesB (L : List Attr) : List ByteArray := (Lib.compact (sortN (nmL L))).map (fun l => ⟨l.toArray⟩)

theorem le_trans8 {a b c : List UInt8} (h1 : a ≤ b) (h2 : b ≤ c) : a ≤ c := List.le_trans h1 h2
theorem sortN_sorted (ss : List (List UInt8)) : (sortN ss).Pairwise (fun x y => x ≤ y) := by
  have := List.pairwise_mergeSort (le := fun x y : List UInt8 => decide (x ≤ y)) (fun a b c h1 h2 => by
    rw [decide_eq_true_iff] at *; exact List.le_trans h1 h2) (fun a b => by
    rw [Bool.or_eq_true, decide_eq_true_iff, decide_eq_true_iff]; exact List.le_total a b) ss
  exact this.imp (by intro a b h; simpa using h)
theorem sortN_mem (ss : List (List UInt8)) (x : List UInt8) : x ∈ sortN ss ↔ x ∈ ss := (List.mergeSort_perm ss _).mem_iff
theorem lt_of_le_ne8 {a b : List UInt8} (h1 : a ≤ b) (h2 : a ≠ b) : a < b := by
  rcases Classical.em (a < b) with h | h
  · exact h
  · exact absurd (List.le_antisymm h1 (List.not_lt.1 h)) h2
theorem comp_all (d : Array (List UInt8)) (hs : ∀ i j, i ≤ j → j < d.size → d[i]! ≤ d[j]!) : ∀ m, m ≤ d.size →
    (Lib.compactUpTo d m).Pairwise (fun a b => a < b) ∧ (∀ x, x ∈ Lib.compactUpTo d m ↔ ∃ j, j < m ∧ d[j]! = x) ∧ (Lib.compactUpTo d m).length ≤ m
  | 0, _ => by
    have e : Lib.compactUpTo d 0 = [] := rfl
    rw [e]
    exact ⟨List.Pairwise.nil, fun x => ⟨fun h => absurd h (by simp), fun ⟨j, hj, _⟩ => absurd hj (by omega)⟩, by simp⟩
  | m + 1, hm => by
    obtain ⟨h1, h2, h3⟩ := comp_all d hs m (by omega)
    rw [Lib.compactUpTo_succ]
    cases hk : Lib.keeps d m with
    | true =>
      simp only [if_true]
      refine ⟨?_, fun x => ?_, by simp; omega⟩
      · rw [List.pairwise_append]
        refine ⟨h1, by simp, fun a ha b hb => ?_⟩
        rw [List.mem_singleton.1 hb]
        obtain ⟨j, hj, rfl⟩ := (h2 a).1 ha
        have hne : d[m]! ≠ d[m - 1]! := by
          unfold Lib.keeps at hk
          rw [decide_eq_true_iff] at hk
          rcases hk with h | h
          · omega
          · exact h
        have hl := hs (m - 1) m (by omega) (by omega)
        have hj2 := hs j (m - 1) (by omega) (by omega)
        have hlt := lt_of_le_ne8 hl (fun e => hne e.symm)
        rcases Classical.em (d[j]! < d[m]!) with h | h
        · exact h
        · exact absurd (List.le_antisymm hl (List.le_trans (List.not_lt.1 h) hj2)) (fun e => hne e.symm)
      · rw [List.mem_append, h2, List.mem_singleton]
        constructor
        · rintro (⟨j, hj, e⟩ | e)
          · exact ⟨j, by omega, e⟩
          · exact ⟨m, by omega, e.symm⟩
        · rintro ⟨j, hj, e⟩
          by_cases hjm : j = m
          · subst hjm; exact .inr e.symm
          · exact .inl ⟨j, by omega, e⟩
    | false =>
      simp only [Bool.false_eq_true, if_false, List.append_nil]
      refine ⟨h1, fun x => ?_, by omega⟩
      rw [h2]
      have hm0 : m ≠ 0 ∧ d[m]! = d[m - 1]! := by
        unfold Lib.keeps at hk
        rw [decide_eq_false_iff_not] at hk
        constructor
        · intro h; exact hk (.inl h)
        · exact Classical.not_not.1 (fun h => hk (.inr h))
      constructor
      · rintro ⟨j, hj, e⟩; exact ⟨j, by omega, e⟩
      · rintro ⟨j, hj, e⟩
        by_cases hjm : j = m
        · subst hjm; exact ⟨j - 1, by omega, by rw [← hm0.2]; exact e⟩
        · exact ⟨j, by omega, e⟩
theorem sorted_get {zs : List (List UInt8)} (h : zs.Pairwise (fun x y => x ≤ y)) : ∀ i j, i ≤ j → j < zs.toArray.size → zs.toArray[i]! ≤ zs.toArray[j]! := by
  intro i j hij hj
  have hj' : j < zs.length := by simpa using hj
  rw [getElem!_pos zs.toArray i (by simp; omega), getElem!_pos zs.toArray j hj]
  simp only [List.getElem_toArray]
  rcases Nat.eq_or_lt_of_le hij with e | h1
  · subst e; exact List.le_refl _
  · exact List.pairwise_iff_getElem.1 h i j (by omega) hj' h1
theorem comp_sorted {zs : List (List UInt8)} (h : zs.Pairwise (fun x y => x ≤ y)) : (Lib.compact zs).Pairwise (fun a b => a < b) ∧ (∀ x, x ∈ Lib.compact zs ↔ x ∈ zs) ∧ (Lib.compact zs).length ≤ zs.length := by
  obtain ⟨h1, h2, h3⟩ := comp_all zs.toArray (sorted_get h) zs.length (by simp)
  unfold Lib.compact
  refine ⟨h1, fun x => ?_, h3⟩
  rw [h2, List.mem_iff_getElem]
  constructor
  · rintro ⟨j, hj, e⟩
    rw [getElem!_pos zs.toArray j (by simpa using hj)] at e
    exact ⟨j, hj, by simpa using e⟩
  · rintro ⟨j, hj, e⟩
    refine ⟨j, hj, ?_⟩
    rw [getElem!_pos zs.toArray j (by simpa using hj)]
    simpa using e
theorem names_asc (L : List Attr) : Asc (namesB L) := by
  unfold Asc namesB
  rw [List.pairwise_map]
  refine (comp_sorted (sortN_sorted (nmL L))).1.imp (fun {a b} h => ?_)
  rw [ltS_iff]
  exact h
theorem names_mem (L : List Attr) (x : ByteArray) : x ∈ namesB L ↔ ∃ a ∈ L, a.n = x := by
  unfold namesB
  rw [List.mem_map]
  constructor
  · rintro ⟨l, h1, rfl⟩
    rw [(comp_sorted (sortN_sorted (nmL L))).2.1, sortN_mem] at h1
    obtain ⟨a, ha, rfl⟩ := List.mem_map.1 h1
    exact ⟨a, ha, bytes_ext (by simp)⟩
  · rintro ⟨a, ha, rfl⟩
    refine ⟨a.n.data.toList, ?_, bytes_ext (by simp)⟩
    rw [(comp_sorted (sortN_sorted (nmL L))).2.1, sortN_mem]
    exact List.mem_map.2 ⟨a, ha, rfl⟩
theorem names_len (L : List Attr) : (namesB L).length ≤ L.length := by
  unfold namesB
  have h1 := (comp_sorted (sortN_sorted (nmL L))).2.2
  have h2 : (sortN (nmL L)).length = L.length := by unfold sortN nmL; rw [List.length_mergeSort, List.length_map]
  rw [List.length_map]
  omega
theorem names_fits {L : List Attr} (h : ∀ a ∈ L, a.fits) : ∀ x ∈ namesB L, x.size ≤ maxLen := by
  intro x hx
  obtain ⟨a, ha, rfl⟩ := (names_mem L x).1 hx
  exact (h a ha).1

/-- Where s belongs in an ascending list. -/
def posU (l : List ByteArray) (s : ByteArray) : Nat := l.countP (fun x => ltS x s)
/-- The list with s inserted, unless it is there. -/
def hasU (l : List ByteArray) (s : ByteArray) : Bool := l.any (fun x => decide (x = s))
theorem hasU_iff {l : List ByteArray} {s : ByteArray} : hasU l s = true ↔ s ∈ l := by
  unfold hasU
  rw [List.any_eq_true]
  constructor
  · rintro ⟨x, h1, h2⟩; rw [decide_eq_true_iff] at h2; rw [← h2]; exact h1
  · intro h; exact ⟨s, h, by simp⟩
def insU (l : List ByteArray) (s : ByteArray) : List ByteArray := if hasU l s = true then l else l.take (posU l s) ++ [s] ++ l.drop (posU l s)
theorem strD {xs : List ByteArray} {k : Nat} (h : k < xs.length) : xs.getD k ByteArray.empty = xs[k] := by
  rw [List.getD_eq_getElem?_getD, List.getElem?_eq_getElem h]; rfl
theorem posU_le (l : List ByteArray) (s : ByteArray) : posU l s ≤ l.length := List.countP_le_length
theorem posU_of {l : List ByteArray} {s : ByteArray} (hl : Asc l) {k : Nat} (hk : k ≤ l.length) (h1 : ∀ j, j < k → ltS (l.getD j ByteArray.empty) s = true) (h2 : k < l.length → ltS (l.getD k ByteArray.empty) s = false) : posU l s = k := by
  unfold posU
  have e : l = l.take k ++ l.drop k := (List.take_append_drop k l).symm
  rw [e, List.countP_append]
  have c1 : (l.take k).countP (fun x => ltS x s) = k := by
    have hc : (l.take k).countP (fun x => ltS x s) = (l.take k).length := by
      rw [List.countP_eq_length]
      intro x hx
      obtain ⟨j, hj, rfl⟩ := List.mem_iff_getElem.1 hx
      have hjk : j < k := by simp at hj; omega
      have := h1 j hjk
      rw [strD (by omega)] at this
      rw [List.getElem_take]; exact this
    rw [hc]; simp; omega
  have c2 : (l.drop k).countP (fun x => ltS x s) = 0 := by
    rw [List.countP_eq_zero]
    intro x hx
    obtain ⟨j, hj, rfl⟩ := List.mem_iff_getElem.1 hx
    have hjl : k + j < l.length := by simp at hj; omega
    rw [List.getElem_drop]
    have h3 := h2 (by omega)
    rw [strD (by omega)] at h3
    cases j with
    | zero => simpa using h3
    | succ j =>
      have h4 := List.pairwise_iff_getElem.1 hl k (k + (j + 1)) (by omega) hjl (by omega)
      cases h5 : ltS l[k + (j + 1)] s with
      | false => simp
      | true => rw [ltS_trans h4 h5] at h3; cases h3
  omega
theorem posU_lt {l : List ByteArray} {s : ByteArray} (hl : Asc l) : (∀ x ∈ l.take (posU l s), ltS x s = true) ∧ (∀ x ∈ l.drop (posU l s), ltS x s = false) := by
  induction l with
  | nil => simp
  | cons a r ih =>
    unfold Asc at hl
    rw [List.pairwise_cons] at hl
    cases ha : ltS a s with
    | true =>
      have e : posU (a :: r) s = posU r s + 1 := by unfold posU; rw [List.countP_cons]; simp [ha]
      rw [e]
      obtain ⟨i1, i2⟩ := ih hl.2
      refine ⟨fun x hx => ?_, fun x hx => i2 x (by simpa using hx)⟩
      rw [List.take_succ_cons] at hx
      rcases List.mem_cons.1 hx with rfl | hx
      · exact ha
      · exact i1 x hx
    | false =>
      have hall : ∀ b ∈ r, ltS b s = false := fun b hb => by
        cases hb2 : ltS b s with
        | false => rfl
        | true => rw [ltS_trans (hl.1 b hb) hb2] at ha; cases ha
      have e : posU (a :: r) s = 0 := by
        unfold posU; rw [List.countP_cons, List.countP_eq_zero.2 (fun b hb => by rw [hall b hb]; simp)]; simp [ha]
      rw [e]
      refine ⟨by simp, fun x hx => ?_⟩
      rw [List.drop_zero] at hx
      rcases List.mem_cons.1 hx with rfl | hx
      · exact ha
      · exact hall x hx
theorem insU_mem (l : List ByteArray) (s x : ByteArray) : x ∈ insU l s ↔ x ∈ l ∨ x = s := by
  unfold insU
  split
  · rename_i h
    rw [hasU_iff] at h
    constructor
    · exact .inl
    · rintro (h1 | rfl)
      · exact h1
      · exact h
  · rw [List.mem_append, List.mem_append, List.mem_singleton]
    constructor
    · rintro ((h1 | h1) | h1)
      · exact .inl (List.mem_of_mem_take h1)
      · exact .inr h1
      · exact .inl (List.mem_of_mem_drop h1)
    · rintro (h1 | h1)
      · rw [← List.take_append_drop (posU l s) l, List.mem_append] at h1
        rcases h1 with h1 | h1
        · exact .inl (.inl h1)
        · exact .inr h1
      · exact .inl (.inr h1)
theorem insU_asc {l : List ByteArray} (hl : Asc l) (s : ByteArray) : Asc (insU l s) := by
  unfold insU
  split
  · exact hl
  · rename_i hs
    rw [hasU_iff] at hs
    obtain ⟨p1, p2⟩ := posU_lt (s := s) hl
    have hl' := hl
    unfold Asc at hl ⊢
    rw [← List.take_append_drop (posU l s) l, List.pairwise_append] at hl
    obtain ⟨q1, q2, q3⟩ := hl
    rw [List.pairwise_append, List.pairwise_append]
    refine ⟨⟨q1, by simp, fun a ha b hb => ?_⟩, q2, fun a ha b hb => ?_⟩
    · rw [List.mem_singleton.1 hb]; exact p1 a ha
    · rcases List.mem_append.1 ha with ha | ha
      · exact q3 a ha b hb
      · rw [List.mem_singleton.1 ha]
        exact ltS_of (p2 b hb) (fun e => hs (by rw [← e]; exact List.mem_of_mem_drop hb))
/-- The names of the first k attributes, inserted one by one. -/
def accK (L : List Attr) (k : Nat) : List ByteArray := (L.take k).foldl (fun l a => insU l a.n) []
theorem accK_succ {L : List Attr} {k : Nat} (h : k < L.length) : accK L (k + 1) = insU (accK L k) (L.getD k A0).n := by
  unfold accK
  rw [List.take_succ_eq_append_getElem h, List.foldl_append, atD h]
  rfl
theorem accK_all (L : List Attr) : ∀ k, k ≤ L.length → Asc (accK L k) ∧ (∀ x, x ∈ accK L k ↔ ∃ a ∈ L.take k, a.n = x) ∧ (accK L k).length ≤ k
  | 0, _ => ⟨List.Pairwise.nil, fun x => by simp [accK], by simp [accK]⟩
  | k + 1, h => by
    obtain ⟨h1, h2, h3⟩ := accK_all L k (by omega)
    rw [accK_succ (by omega)]
    refine ⟨insU_asc h1 _, fun x => ?_, ?_⟩
    · rw [insU_mem, h2, List.take_succ_eq_append_getElem (by omega), atD (by omega)]
      constructor
      · rintro (⟨a, ha, e⟩ | e)
        · exact ⟨a, List.mem_append.2 (.inl ha), e⟩
        · exact ⟨_, List.mem_append.2 (.inr (List.mem_singleton.2 rfl)), e.symm⟩
      · rintro ⟨a, ha, e⟩
        rcases List.mem_append.1 ha with ha | ha
        · exact .inl ⟨a, ha, e⟩
        · rw [List.mem_singleton.1 ha] at e; exact .inr e.symm
    · unfold insU
      split
      · omega
      · have := posU_le (accK L k) (L.getD k A0).n
        simp
        omega
theorem accK_names (L : List Attr) : accK L L.length = namesB L := by
  obtain ⟨h1, h2, _⟩ := accK_all L L.length (Nat.le_refl _)
  refine asc_unique h1 (names_asc L) fun x => ?_
  rw [h2, names_mem, List.take_length]

end Go.Proofs.YtoeiaffkedkepaaGreatDoor

/- The fault of a list of components, case by case. No program. -/
namespace Go.Proofs.YtoeiaffkedkepaaGreatDoor
open Go.RowKit

theorem getD_eq {xs : List ByteArray} {k : Nat} (h : k < xs.length) : xs.getD k ByteArray.empty = xs[k] := by
  rw [List.getD_eq_getElem?_getD, List.getElem?_eq_getElem h]; rfl

theorem vname_mem {xs : List ByteArray} (hv : ∀ j, j < xs.length → vname (xs.getD j ByteArray.empty) = true) : ∀ x ∈ xs, vname x = true := by
  intro x hx
  obtain ⟨j, hj, rfl⟩ := List.mem_iff_getElem.1 hx
  rw [← getD_eq hj]; exact hv j hj

theorem compFault_bad {xs : List ByteArray} {k : Nat} (hk : k < xs.length) (hb : vname (xs.getD k ByteArray.empty) = false) (hA : ∀ j, j < k → vname (xs.getD j ByteArray.empty) = true) : compFault xs = (12, (k : Int)) := by
  unfold compFault; rw [firstBad_hit hk hb hA, if_pos hk]
theorem compFault_deep {xs : List ByteArray} (h8 : 8 < xs.length) (hA : ∀ j, j < xs.length → vname (xs.getD j ByteArray.empty) = true) : compFault xs = (10, 0) := by
  unfold compFault; rw [firstBad_miss hA, if_neg (Nat.lt_irrefl _), if_pos h8]
theorem compFault_fine {xs : List ByteArray} (h8 : ¬ 8 < xs.length) (hA : ∀ j, j < xs.length → vname (xs.getD j ByteArray.empty) = true) : compFault xs = (0, 0) := by
  unfold compFault; rw [firstBad_miss hA, if_neg (Nat.lt_irrefl _), if_neg h8]

end Go.Proofs.YtoeiaffkedkepaaGreatDoor

/- Splitting a string at slashes: the plain function, that the library's split is it, and that a scan from the left comes to it. Plain facts on lists of bytes. -/
namespace Go.Proofs.YtoeiaffkedkepaaGreatDoor
open Go.RowKit

/-- The pieces between the slashes. -/
def pieces : List UInt8 → List (List UInt8)
  | [] => [[]]
  | c :: r => if c = 47 then [] :: pieces r else match pieces r with
    | [] => [[c]]
    | p :: ps => (c :: p) :: ps
theorem pieces_ne (s : List UInt8) : pieces s ≠ [] := by
  cases s with
  | nil => simp [pieces]
  | cons c r =>
    unfold pieces
    split
    · simp
    · split <;> simp
theorem pieces_form (s : List UInt8) : ∃ p ps, pieces s = p :: ps := by
  cases h : pieces s with
  | nil => exact absurd h (pieces_ne s)
  | cons p ps => exact ⟨p, ps, rfl⟩
theorem pieces_slash (r : List UInt8) : pieces (47 :: r) = [] :: pieces r := by rw [pieces, if_pos rfl]
theorem pieces_other {c : UInt8} {r : List UInt8} {p : List UInt8} {ps : List (List UInt8)} (hc : c ≠ 47) (h : pieces r = p :: ps) : pieces (c :: r) = (c :: p) :: ps := by
  rw [pieces, if_neg hc, h]
theorem splitK_pieces : ∀ s : List UInt8, Lib.splitK [47] 0 (s.count 47) s = pieces s
  | [] => rfl
  | c :: r => by
    by_cases hc : c = 47
    · subst hc
      rw [List.count_cons_self, pieces_slash]
      unfold Lib.splitK
      have hi : Lib.index (47 :: r) [47] = 0 := by rw [Lib.index_one]; simp [Lib.indexByte]
      rw [hi]
      simp only [Int.toNat_zero, List.take_zero, List.length_cons, List.length_nil, Nat.zero_add, List.drop_succ_cons, List.drop_zero]
      rw [if_neg (by decide), splitK_pieces r]
    · have ih := splitK_pieces r
      rw [List.count_cons_of_ne hc]
      obtain ⟨p, ps, hp⟩ := pieces_form r
      rw [pieces_other hc hp]
      rw [hp] at ih
      have hidx : Lib.index (c :: r) [47] = if Lib.index r [47] == -1 then -1 else Lib.index r [47] + 1 := by
        rw [Lib.index_one, Lib.index_one, Lib.indexByte, if_neg (by simpa using hc)]
      have hge : -1 ≤ Lib.index r [47] := Lib.index_ge _ _
      cases hk : r.count 47 with
      | zero =>
        rw [hk] at ih
        simp only [Lib.splitK] at ih ⊢
        rw [List.cons.injEq] at ih
        rw [← ih.1, ← ih.2]
      | succ k =>
        rw [hk] at ih
        unfold Lib.splitK at ih ⊢
        rw [hidx]
        by_cases hm : Lib.index r [47] = -1
        · rw [hm] at ih ⊢
          simp at ih ⊢
          exact ⟨ih.1, ih.2⟩
        · obtain ⟨i, hi⟩ : ∃ i : Nat, Lib.index r [47] = i := ⟨(Lib.index r [47]).toNat, by omega⟩
          rw [hi] at ih ⊢
          have h1 : ((i : Int) == -1) = false := by rw [beq_eq_false_iff_ne]; omega
          have h2 : ((i : Int) + 1 == -1) = false := by rw [beq_eq_false_iff_ne]; omega
          have h3 : ((i : Int) + 1).toNat = i + 1 := by omega
          simp only [h1, h2, h3, Bool.false_eq_true, if_false, Int.toNat_natCast, Nat.add_zero] at ih ⊢
          rw [List.cons.injEq] at ih
          rw [List.take_succ_cons, ih.1, show i + 1 + ([47] : List UInt8).length = (i + ([47] : List UInt8).length) + 1 from by simp, List.drop_succ_cons, ih.2]

def toB (l : List UInt8) : ByteArray := ⟨l.toArray⟩
theorem toB_data (l : List UInt8) : (toB l).data.toList = l := by simp [toB]
theorem toB_of (s : ByteArray) : toB s.data.toList = s := by
  apply ByteArray.ext; simp [toB]
theorem toB_inj {a b : List UInt8} (h : toB a = toB b) : a = b := by rw [← toB_data a, h, toB_data]
/-- The components of a text: its pieces as strings. -/
def comps (l : List UInt8) : List ByteArray := (pieces l).map toB
theorem splitB_comps (s : ByteArray) : Lib.splitB ⟨#[47]⟩ 0 (Lib.countB s ⟨#[47]⟩) s = comps s.data.toList := by
  have h := Lib.splitB_data ⟨#[47]⟩ 0 (Lib.countB s ⟨#[47]⟩) s
  have e : Lib.countB s ⟨#[47]⟩ = s.data.toList.count 47 := Lib.count_one 47 _
  rw [e] at h ⊢
  rw [show ((⟨#[47]⟩ : ByteArray).data.toList) = [47] from rfl, splitK_pieces] at h
  unfold comps
  rw [← h, List.map_map]
  have : (toB ∘ fun x : ByteArray => x.data.toList) = id := by funext x; exact toB_of x
  rw [this, List.map_id]
theorem comps_len (s : ByteArray) : (comps s.data.toList).length = Lib.countB s ⟨#[47]⟩ + 1 := by
  rw [← splitB_comps]; exact Lib.splitB_all _ (by decide) 0 _ s rfl
theorem pieces_len_le : ∀ (l : List UInt8), (pieces l).length ≤ l.length + 1
  | [] => by simp [pieces]
  | c :: r => by
    have := pieces_len_le r
    by_cases hc : c = 47
    · subst hc; rw [pieces_slash]; simp; omega
    · obtain ⟨p, ps, hp⟩ := pieces_form r
      rw [pieces_other hc hp]; rw [hp] at this; simp at *; omega
theorem comps_len_le (l : List UInt8) : (comps l).length ≤ l.length + 1 := by
  unfold comps; rw [List.length_map]; exact pieces_len_le l
theorem pieces_size : ∀ (l : List UInt8), ∀ p ∈ pieces l, p.length ≤ l.length
  | [], p, hp => by simp [pieces] at hp; subst hp; simp
  | c :: r, p, hp => by
    have ih := pieces_size r
    by_cases hc : c = 47
    · subst hc
      rw [pieces_slash] at hp
      rcases List.mem_cons.1 hp with rfl | hp
      · simp
      · have := ih p hp; simp; omega
    · obtain ⟨q, qs, hq⟩ := pieces_form r
      rw [pieces_other hc hq] at hp
      rw [hq] at ih
      rcases List.mem_cons.1 hp with rfl | hp
      · have := ih q (by simp); simp; omega
      · have := ih p (by simp [hp]); simp; omega
theorem comps_size {l : List UInt8} {x : ByteArray} (h : x ∈ comps l) : x.size ≤ l.length := by
  unfold comps at h
  obtain ⟨p, hp, rfl⟩ := List.mem_map.1 h
  have := pieces_size l p hp
  have e : (toB p).size = p.length := by simp [toB, ByteArray.size]
  omega

/-- What a scan from the left holds: done pieces, the piece under way, and the rest come to the whole. -/
def glue (now : List UInt8) : List (List UInt8) → List (List UInt8)
  | [] => [now]
  | p :: ps => (now ++ p) :: ps
theorem glue_nil (s : List UInt8) : glue [] (pieces s) = pieces s := by
  obtain ⟨p, ps, h⟩ := pieces_form s
  rw [h]; rfl
theorem glue_end (now : List UInt8) : glue now (pieces []) = [now] := by simp [pieces, glue]
theorem glue_slash (now r : List UInt8) : glue now (pieces (47 :: r)) = now :: pieces r := by
  rw [pieces_slash]; simp [glue]
theorem glue_other {c : UInt8} (now r : List UInt8) (hc : c ≠ 47) : glue now (pieces (c :: r)) = glue (now ++ [c]) (pieces r) := by
  obtain ⟨p, ps, h⟩ := pieces_form r
  rw [pieces_other hc h, h]; simp [glue]

end Go.Proofs.YtoeiaffkedkepaaGreatDoor

/- The elements of a path pattern: the pieces between slashes that are not empty; the library's splitting by runes comes to the same. Plain facts. -/
namespace Go.Proofs.YtoeiaffkedkepaaGreatDoor
open Go.RowKit

def full (p : List UInt8) : Bool := !p.isEmpty
/-- The pieces that are not empty. -/
def parts (l : List UInt8) : List ByteArray := ((pieces l).filter full).map toB
def p47 (r : Nat) : Bool := r == 47

theorem glue_seg : ∀ (seg now r : List UInt8), (∀ c ∈ seg, c ≠ 47) → glue now (pieces (seg ++ r)) = glue (now ++ seg) (pieces r)
  | [], now, r, _ => by simp
  | c :: seg, now, r, h => by
    rw [List.cons_append, glue_other now (seg ++ r) (h c (by simp)), glue_seg seg (now ++ [c]) r (fun x hx => h x (by simp [hx])), List.append_assoc]; rfl

theorem dec47 (s : ByteArray) (pos : Nat) (h : pos < s.data.toList.length) :
    (s.data.toList.getD pos 0 = 47 → Utf8.decode s pos = (47, 1)) ∧
    (s.data.toList.getD pos 0 ≠ 47 → (Utf8.decode s pos).1 ≠ 47 ∧ 1 ≤ (Utf8.decode s pos).2 ∧ pos + (Utf8.decode s pos).2 ≤ s.data.toList.length ∧ ∀ k, k < (Utf8.decode s pos).2 → s.data.toList.getD (pos + k) 0 ≠ 47) := by
  rw [Lib.decode_N]
  generalize s.data.toList = l at *
  have e : ∀ k, l.getD (pos + k) 0 = 47 ↔ (l.getD (pos + k) 0).toNat = 47 := fun k => ⟨fun h => by rw [h]; rfl, fun h => UInt8.toNat_inj.1 h⟩
  have e0 := e 0
  rw [Nat.add_zero] at e0
  constructor
  · intro h0
    rw [e0] at h0
    rw [h0]
    rw [Lib.decodeN_ascii _ _ _ _ _ (by omega)]
  · intro h0
    rw [Ne, e0] at h0
    rcases Lib.decodeN_shape (l.length - pos) (l.getD pos 0).toNat (l.getD (pos + 1) 0).toNat (l.getD (pos + 2) 0).toNat (l.getD (pos + 3) 0).toNat with ⟨h1, h2⟩ | ⟨h1, h3, h4, h5, h2⟩ | ⟨h1, h3, h4, h6, h5, _, h2⟩ | ⟨h1, h3, h4, h6, h7, h5, _, h2⟩ | h2
    · rw [h2]
      refine ⟨h0, Nat.le_refl _, by simp only; omega, fun k hk => ?_⟩
      obtain rfl : k = 0 := by simp only at hk; omega
      rw [Ne, e 0]; exact h0
    · rw [h2]
      refine ⟨by simp only; omega, by simp only; omega, by simp only; omega, fun k hk => ?_⟩
      simp only at hk
      rw [Ne, e k]
      match k, hk with
      | 0, _ => exact h0
      | 1, _ => omega
    · rw [h2]
      refine ⟨by simp only; omega, by simp only; omega, by simp only; omega, fun k hk => ?_⟩
      simp only at hk
      rw [Ne, e k]
      match k, hk with
      | 0, _ => exact h0
      | 1, _ => omega
      | 2, _ => omega
    · rw [h2]
      refine ⟨by simp only; omega, by simp only; omega, by simp only; omega, fun k hk => ?_⟩
      simp only at hk
      rw [Ne, e k]
      match k, hk with
      | 0, _ => exact h0
      | 1, _ => omega
      | 2, _ => omega
      | 3, _ => omega
    · rw [h2]
      refine ⟨by simp only; omega, Nat.le_refl _, by simp only; omega, fun k hk => ?_⟩
      obtain rfl : k = 0 := by simp only at hk; omega
      rw [Ne, e 0]; exact h0

/-- What lies open at pos. -/
def opn (l : List UInt8) (pos : Nat) : Option Nat → List UInt8
  | none => []
  | some a => (l.drop a).take (pos - a)
theorem opn_some (l : List UInt8) (pos a : Nat) : opn l pos (some a) = (l.drop a).take (pos - a) := rfl
theorem opn_more {l : List UInt8} {pos d : Nat} {a : Nat} (h : a ≤ pos) : opn l (pos + d) (some a) = opn l pos (some a) ++ (l.drop pos).take d := by
  rw [opn_some, opn_some, show pos + d - a = (pos - a) + d from by omega, List.take_add, List.drop_drop, show a + (pos - a) = pos from by omega]
theorem opn_full {l : List UInt8} {pos a : Nat} (h : a < pos) (hp : pos ≤ l.length) : full (opn l pos (some a)) = true := by
  rw [opn_some]; unfold full
  cases hh : (l.drop a).take (pos - a) with
  | nil =>
    have := congrArg List.length hh
    rw [List.length_take, List.length_drop] at this
    simp at this; omega
  | cons x y => rfl
theorem toB_extract (s : ByteArray) (a pos : Nat) (h : a ≤ pos) : s.extract a pos = toB (opn s.data.toList pos (some a)) := by
  rw [← toB_of (s.extract a pos), Lib.extract_data]; rfl

theorem fields_parts (s : ByteArray) : ∀ (f pos : Nat) (st : Option Nat) (acc : List (Nat × Nat)), s.data.toList.length ≤ pos + f → pos ≤ s.data.toList.length → (∀ a, st = some a → a < pos) →
    (Lib.closeSpans s (Lib.spansFromP p47 s f pos st acc)).map (fun x => s.extract x.1 x.2) = acc.map (fun x => s.extract x.1 x.2) ++ ((glue (opn s.data.toList pos st) (pieces (s.data.toList.drop pos))).filter full).map toB := by
  have hsz : s.data.toList.length = s.size := by simp
  have fin : ∀ (pos : Nat) (st : Option Nat) (acc : List (Nat × Nat)), pos = s.data.toList.length → (∀ a, st = some a → a < pos) →
      (Lib.closeSpans s (acc, st)).map (fun x => s.extract x.1 x.2) = acc.map (fun x => s.extract x.1 x.2) ++ ((glue (opn s.data.toList pos st) (pieces (s.data.toList.drop pos))).filter full).map toB := by
    intro pos st acc hp hst
    rw [List.drop_eq_nil_of_le (by omega), glue_end]
    cases st with
    | none => simp [Lib.closeSpans, opn, full]
    | some a =>
      have h1 := hst a rfl
      have h2 := opn_full (l := s.data.toList) h1 (by omega)
      rw [List.filter_cons, if_pos h2]
      simp only [Lib.closeSpans, List.map_append, List.map_cons, List.map_nil, List.filter_nil]
      rw [toB_extract s a s.size (by omega), show s.size = pos from by omega]
  intro f
  induction f with
  | zero =>
    intro pos st acc h hp hst
    exact fin pos st acc (by omega) hst
  | succ f ih =>
    intro pos st acc h hp hst
    unfold Lib.spansFromP
    by_cases hlt : pos < s.size
    · rw [if_pos hlt]
      have hlt2 : pos < s.data.toList.length := by omega
      obtain ⟨d1, d2⟩ := dec47 s pos hlt2
      have hd : s.data.toList.drop pos = s.data.toList.getD pos 0 :: s.data.toList.drop (pos + 1) := by
        rw [List.drop_eq_getElem_cons hlt2, List.getD_eq_getElem?_getD, List.getElem?_eq_getElem hlt2]; rfl
      by_cases hc : s.data.toList.getD pos 0 = 47
      · rw [d1 hc, if_pos (by rfl)]
        rw [hd, hc, glue_slash]
        cases st with
        | none =>
          simp only
          rw [ih (pos + 1) none acc (by omega) (by omega) (fun a ha => by cases ha)]
          rw [show opn s.data.toList pos none = [] from rfl, show opn s.data.toList (pos + 1) none = [] from rfl, glue_nil]
          rfl
        | some a =>
          have h1 := hst a rfl
          simp only
          rw [ih (pos + 1) none (acc ++ [(a, pos)]) (by omega) (by omega) (fun a ha => by cases ha)]
          rw [show opn s.data.toList (pos + 1) none = [] from rfl, glue_nil, List.filter_cons, if_pos (opn_full h1 (by omega)), List.map_append, List.map_cons, List.append_assoc]
          simp only [List.map_cons, List.map_nil, List.cons_append, List.nil_append]
          rw [toB_extract s a pos (by omega)]
      · obtain ⟨c1, c2, c3, c4⟩ := d2 hc
        rw [if_neg (by unfold p47; simpa using c1)]
        generalize (Utf8.decode s pos).2 = d at *
        have hseg : s.data.toList.drop pos = (s.data.toList.drop pos).take d ++ s.data.toList.drop (pos + d) := by
          rw [← List.drop_drop]; exact (List.take_append_drop d _).symm
        have hno : ∀ c ∈ (s.data.toList.drop pos).take d, c ≠ 47 := by
          intro c hc2
          obtain ⟨k, hk, hk2⟩ := List.getElem_of_mem hc2
          rw [List.length_take, List.length_drop] at hk
          have := c4 k (by omega)
          rw [List.getD_eq_getElem?_getD, List.getElem?_eq_getElem (by omega)] at this
          rw [List.getElem_take, List.getElem_drop] at hk2
          rw [← hk2]; exact this
        cases st with
        | none =>
          simp only
          rw [ih (pos + d) (some pos) acc (by omega) (by omega) (fun a ha => by cases ha; omega)]
          rw [hseg, glue_seg _ _ _ hno, show opn s.data.toList pos none = [] from rfl, List.nil_append]
          rw [opn_some, show pos + d - pos = d from by omega]
        | some a =>
          have h1 := hst a rfl
          simp only
          rw [ih (pos + d) (some a) acc (by omega) (by omega) (fun a' ha => by cases ha; omega)]
          rw [hseg, glue_seg _ _ _ hno, opn_more (by omega)]
    · rw [if_neg hlt]
      exact fin pos st acc (by omega) hst

theorem goFields_parts (s : ByteArray) : Lib.goFieldsP p47 s = parts s.data.toList := by
  have := fields_parts s s.size 0 none [] (by simp) (Nat.zero_le _) (fun a ha => by cases ha)
  unfold Lib.goFieldsP Lib.spansOfP
  rw [this, show opn s.data.toList 0 none = [] from rfl, glue_nil]
  rfl
theorem parts_comps (l : List UInt8) : parts l = (comps l).filter (fun x => !(x.size == 0)) := by
  unfold parts comps
  rw [List.filter_map]
  congr 1
  apply List.filter_congr
  intro p _
  unfold full
  cases p with
  | nil => rfl
  | cons a b =>
    have h : (toB (a :: b)).size = b.length + 1 := rfl
    show true = !((toB (a :: b)).size == 0)
    rw [h]; rfl

end Go.Proofs.YtoeiaffkedkepaaGreatDoor

/- path.Split at every string: the components and the fault. Conditions: the library's variable that bounds a search holds an int (it is read by strings.Split's text alone), the string is of at most the model's longest length. -/
namespace Go.Proofs.YtoeiaffkedkepaaGreatDoor
open Go.RowKit

/-- The library's variable internal/bytealg.MaxLen holds an int. -/
def GM (w : World) : Prop := 0 < w.heap.size ∧ ∃ m : Int, w.cell? ⟨0, 0, none⟩ = some (.int .i64 m)
theorem GM.below {w w' : World} (h : GM w) (hb : Below w.heap.size w w') : GM w' := by
  obtain ⟨hl, m, hm⟩ := h
  exact ⟨Nat.lt_of_lt_of_le hl hb.size, m, (hb.cell (p := ⟨0, 0, none⟩) hl).trans hm⟩

theorem strs_new (w : World) (xs : List ByteArray) (t : TypeId) (hl : xs.length ≤ 35184372088832) (hs : ∀ x ∈ xs, x.size ≤ maxLen) :
    Strs (w.alloc (.cells (xs.map Value.string).toArray t)) (w.alloc (.cells (xs.map Value.string).toArray t)).heap.size (.slice (some ⟨w.heap.size, 0, none⟩) xs.length xs.length) xs := by
  refine ⟨_, _, rfl, Nat.le_refl _, hl, hs, fun _ => ⟨_, _, rfl, by simp, fun j hj => ?_⟩⟩
  rw [List.getD_eq_getElem?_getD, List.getElem?_eq_getElem hj, Nat.zero_add, cell_of_row _ _ _ _ t (0, 0) (heap_alloc_new w _)]
  simp [hj]

theorem cut_yes (p : ByteArray) (r : List UInt8) (h : p.data.toList = 47 :: r) (w : World) :
    Calls Tryz.prog 32 #[.string p, .string ⟨#[47]⟩] w fun e w' => e = .returned (.tuple #[.string (toB r), .bool true]) ∧ w = w' := by
  refine (Tryz.strings_CutPrefix p ⟨#[47]⟩ w).mono fun e w' ⟨he, hw⟩ => ⟨?_, hw.symm⟩
  rw [he, h]
  simp [Lib.hasPrefix, Lib.trimPrefix, toB]
theorem noPrefix : ∀ (l : List UInt8), (∀ r, l ≠ 47 :: r) → Lib.hasPrefix l [47] = false
  | [], _ => rfl
  | c :: r, h => by
    unfold Lib.hasPrefix
    by_cases e : c = 47
    · exact absurd (by rw [e]) (h r)
    · rw [List.isPrefixOf_cons_cons, beq_eq_false_iff_ne.2 (fun x : (47 : UInt8) = c => e x.symm)]; rfl
theorem cut_no (p : ByteArray) (h : ∀ r, p.data.toList ≠ 47 :: r) (w : World) :
    Calls Tryz.prog 32 #[.string p, .string ⟨#[47]⟩] w fun e w' => e = .returned (.tuple #[.string p, .bool false]) ∧ w = w' := by
  refine (Tryz.strings_CutPrefix p ⟨#[47]⟩ w).mono fun e w' ⟨he, hw⟩ => ⟨?_, hw.symm⟩
  rw [he, show ((⟨#[47]⟩ : ByteArray).data.toList) = [47] from rfl, Lib.trimPrefix, noPrefix _ h, if_neg (by simp)]

theorem splitS_any (s : ByteArray) (w : World) (hg : GM w) (hs : s.size ≤ 100) :
    Calls Tryz.prog 33 #[.string s, .string ⟨#[47]⟩] w fun e w' =>
      e = .returned (.slice (some ⟨w.heap.size, 0, none⟩) (comps s.data.toList).length (comps s.data.toList).length) ∧
      Strs w' w'.heap.size (.slice (some ⟨w.heap.size, 0, none⟩) (comps s.data.toList).length (comps s.data.toList).length) (comps s.data.toList) ∧ Below w.heap.size w w' := by
  obtain ⟨hl, m, hm⟩ := hg
  refine (Tryz.strings_Split s ⟨#[47]⟩ m w (by omega) hm (by decide)).mono fun e w' ⟨he, hw⟩ => ?_
  rw [splitB_comps] at hw
  rw [← comps_len] at he
  subst hw
  have hsz : s.data.toList.length = s.size := by simp
  refine ⟨he, strs_new w _ _ ?_ ?_, (Below.refl _ _).alloc (Nat.le_refl _) _⟩
  · have := comps_len_le s.data.toList; omega
  · intro x hx
    have := comps_size hx
    unfold maxLen; omega

/-- What Split answers: the fault, the components. -/
def splitF (p : ByteArray) : Int × Int :=
  if 100 < p.size then (2, 0) else match p.data.toList with
  | [] => (5, 0)
  | c :: r => if c = 47 then (if r = [] then (0, 0) else compFault (comps r)) else (5, 0)
def splitL (p : ByteArray) : List ByteArray :=
  if (splitF p).1 = 0 then match p.data.toList with
  | [] => []
  | _ :: r => if r = [] then [] else comps r
  else []

def SplitPost (p : ByteArray) (w : World) (e : Ending) (w' : World) : Prop :=
  ∃ v, e = .returned (.tuple #[v, .agg #[.int .i64 (splitF p).1, .int .i64 (splitF p).2]]) ∧ Strs w' w'.heap.size v (splitL p) ∧ Below w.heap.size w w' ∧ (∀ g, v.ownBlock = some g → w.heap.size ≤ g)

theorem splitPost_fault {p : ByteArray} {w w' : World} {c i : Int} (h : splitF p = (c, i)) (hc : c ≠ 0) (hb : Below w.heap.size w w') :
    SplitPost p w (.returned (.tuple #[.slice none 0 0, .agg #[.int .i64 c, .int .i64 i]])) w' := by
  refine ⟨.slice none 0 0, by rw [h], ?_, hb, fun g hg => by cases hg⟩
  have : splitL p = [] := by unfold splitL; rw [h, if_neg hc]
  rw [this]
  exact ⟨none, 0, rfl, by simp, by simp, by simp, fun h => absurd h (by simp)⟩

set_option maxHeartbeats 400000 in
theorem pathSplit_long (p : ByteArray) (w : World) (hp : p.size ≤ maxLen) (hl : 100 < p.size) :
    Calls Tryz.prog 18 #[.string p] w (SplitPost p w) := by
  unfold maxLen at hp
  have HF := Lib.hid (show splitF p = (2, 0) by unfold splitF; rw [if_pos hl])
  have hl2 : (100 : Int) < (p.size : Int) := by omega
  go_enter Tryz.func18, Tryz.ntmps18
  go_wp2
  refine bodyPost_ret (v := .tuple #[.slice none 0 0, .agg #[.int .i64 2, .int .i64 0]]) ?_ rfl (splitPost_fault HF.out (by decide) ?_)
  · simp [results, Tryz.results18, go_sem]
  · repeat (first | exact Below.refl _ _ | refine Below.setCell ?_ (by simp) _ | refine Below.alloc ?_ (by simp) _ | refine Below.drew ?_)

set_option maxHeartbeats 400000 in
theorem pathSplit_bare (p : ByteArray) (w : World) (hp : p.size ≤ maxLen) (hl : ¬ 100 < p.size) (hr : ∀ r, p.data.toList ≠ 47 :: r) :
    Calls Tryz.prog 18 #[.string p] w (SplitPost p w) := by
  unfold maxLen at hp
  have HF := Lib.hid (show splitF p = (5, 0) by
    unfold splitF; rw [if_neg hl]
    cases hd : p.data.toList with
    | nil => rfl
    | cons c r =>
      have : c ≠ 47 := fun e => hr r (by rw [hd, e])
      simp only [if_neg this])
  have hl2 : ¬ (100 : Int) < (p.size : Int) := by omega
  have HC := Lib.hid (cut_no p hr)
  clear hr
  go_enter Tryz.func18, Tryz.ntmps18
  go_wp2_with fail
  refine (HC.out _).mono ?_
  rintro e w' ⟨rfl, rfl⟩
  go_wp2
  refine bodyPost_ret (v := .tuple #[.slice none 0 0, .agg #[.int .i64 5, .int .i64 0]]) ?_ rfl (splitPost_fault HF.out (by decide) ?_)
  · simp [results, Tryz.results18, go_sem]
  · repeat (first | exact Below.refl _ _ | refine Below.setCell ?_ (by simp) _ | refine Below.alloc ?_ (by simp) _ | refine Below.drew ?_)

set_option maxHeartbeats 400000 in
theorem pathSplit_root (p : ByteArray) (w : World) (hp : p.size ≤ maxLen) (hl : ¬ 100 < p.size) (hr : p.data.toList = [47]) :
    Calls Tryz.prog 18 #[.string p] w (SplitPost p w) := by
  unfold maxLen at hp
  have HF := Lib.hid (show splitF p = (0, 0) ∧ splitL p = [] by
    have : splitF p = (0, 0) := by unfold splitF; rw [if_neg hl, hr]; rfl
    refine ⟨this, ?_⟩
    unfold splitL; rw [this, hr]; rfl)
  have hl2 : ¬ (100 : Int) < (p.size : Int) := by omega
  have HC := Lib.hid (cut_yes p [] hr)
  clear hr
  go_enter Tryz.func18, Tryz.ntmps18
  go_wp2_with fail
  refine (HC.out _).mono ?_
  rintro e w' ⟨rfl, rfl⟩
  have hem : (toB []).toList.isEmpty = true := by rw [Lib.toList_data, toB_data]; rfl
  go_wp2
  refine bodyPost_ret (v := .tuple #[.slice none 0 0, .agg #[.int .i64 0, .int .i64 0]]) ?_ rfl ⟨.slice none 0 0, by rw [HF.out.1], ?_, ?_, fun g hg => by cases hg⟩
  · simp [results, Tryz.results18, go_sem]
  · rw [HF.out.2]; exact ⟨none, 0, rfl, by simp, by simp, by simp, fun h => absurd h (by simp)⟩
  · repeat (first | exact Below.refl _ _ | refine Below.setCell ?_ (by simp) _ | refine Below.alloc ?_ (by simp) _ | refine Below.drew ?_)

set_option maxHeartbeats 400000 in
theorem pathSplit_comps (p : ByteArray) (r : List UInt8) (w : World) (hg : GM w) (hp : p.size ≤ maxLen) (hl : ¬ 100 < p.size) (hr : p.data.toList = 47 :: r) (hne : r ≠ []) :
    Calls Tryz.prog 18 #[.string p] w (SplitPost p w) := by
  unfold maxLen at hp
  have HF := Lib.hid (show splitF p = compFault (comps r) by unfold splitF; rw [if_neg hl, hr]; simp only [if_true, if_neg hne])
  have HL := Lib.hid (show (compFault (comps r)).1 = 0 → splitL p = comps r by
    intro h; unfold splitL; rw [HF.out, if_pos h, hr]; simp only [if_neg hne])
  have hsz : (toB r).size ≤ 100 := by
    have h1 : p.data.toList.length = p.size := by simp
    have h2 : (toB r).size = r.length := by simp [toB, ByteArray.size]
    rw [hr] at h1; simp at h1; omega
  have hl2 : ¬ (100 : Int) < (p.size : Int) := by omega
  have HC := Lib.hid (cut_yes p r hr)
  have hem : (toB r).toList.isEmpty = false := by
    rw [Lib.toList_data, toB_data]
    cases r with
    | nil => exact absurd rfl hne
    | cons c t => rfl
  have hS := fun W (hb : Below w.heap.size w W) => splitS_any (toB r) W (hg.below hb) hsz
  rw [toB_data] at hS
  have HS := Lib.hid hS
  clear hr hne hS
  go_enter Tryz.func18, Tryz.ntmps18
  go_wp2_with fail
  refine (HC.out _).mono ?_
  rintro e w' ⟨rfl, rfl⟩
  go_wp2_with fail
  refine (HS.out _ ((Below.refl _ _).alloc (Nat.le_refl _) _)).mono ?_
  rintro e w1 ⟨rfl, hS0, b1⟩
  have hS1 : Strs w1 w1.heap.size (.slice (some ⟨w.heap.size + 1, 0, none⟩) (comps r).length (comps r).length) (comps r) := by simpa using hS0
  clear hS0
  have X1 := Lib.hid ((FBox.new w 0 0 28).below b1 (by simp))
  have B1 : Below w.heap.size w w1 := ((Below.refl _ _).alloc (Nat.le_refl _) _).trans (b1.mono (by simp))
  clear b1
  go_wp2_with fail
  refine (checkComponents_any _ _ _ hS1).mono ?_
  unfold compV faultV
  rintro e w2 ⟨rfl, b2⟩
  have hS2 := Lib.hid ((hS1.below b2).more b2.size)
  have X2 := Lib.hid (X1.out.below b2 X1.out.lt)
  have B2 : Below w.heap.size w w2 := B1.trans (b2.mono B1.size)
  clear X1 B1 b2 hS1
  by_cases hc : (compFault (comps r)).1 = 0
  · have hi := (compFault_ok hc).2.1
    have HP := Lib.hid (show splitF p = (0, 0) by rw [HF.out]; exact Prod.ext hc hi)
    have HQ := Lib.hid (HL.out hc)
    rw [hc, hi]
    clear hc hi
    obtain ⟨l2, a0, a1, f0, f1⟩ := X2.out
    go_wp2
    refine bodyPost_ret (v := .tuple #[.slice (some ⟨w.heap.size + 1, 0, none⟩) (comps r).length (comps r).length, .agg #[.int .i64 0, .int .i64 0]]) ?_ rfl ⟨_, by rw [HP.out], ?_, ?_, fun g hg => by injection hg with hg; subst hg; simp⟩
    · simp [results, Tryz.results18, go_sem, a0, a1, l2]
    · rw [HQ.out]
      exact (((hS2.out.set (by simp) _).set (by simp) _).alloc (by simp) _).more (by simp)
    · repeat (first | exact B2 | refine Below.setCell ?_ (by simp) _ | refine Below.alloc ?_ (by simp; omega) _ | refine Below.drew ?_)
  · have HP := Lib.hid (show splitF p = ((compFault (comps r)).1, (compFault (comps r)).2) from HF.out)
    have HN := Lib.hid hc
    generalize (compFault (comps r)).1 = c at *
    generalize (compFault (comps r)).2 = i at *
    have hc1 : (c != 0) = true := by simpa using hc
    have hc2 : (c == 0) = false := by simpa using hc
    clear hc
    obtain ⟨l2, a0, a1, f0, f1⟩ := X2.out
    go_wp2
    go_region
    go_wp2
    refine bodyPost_ret (v := .tuple #[.slice none 0 0, .agg #[.int .i64 c, .int .i64 i]]) ?_ rfl (splitPost_fault HP.out HN.out ?_)
    · simp [results, Tryz.results18, go_sem, a0, a1, l2]
    · repeat (first | exact B2 | refine Below.setCell ?_ (by simp) _ | refine Below.alloc ?_ (by simp; omega) _ | refine Below.drew ?_)

theorem pathSplit_any (p : ByteArray) (w : World) (hg : GM w) (hp : p.size ≤ maxLen) :
    Calls Tryz.prog 18 #[.string p] w (SplitPost p w) := by
  by_cases hl : 100 < p.size
  · exact pathSplit_long p w hp hl
  · cases hd : p.data.toList with
    | nil => exact pathSplit_bare p w hp hl (fun r h => by rw [hd] at h; cases h)
    | cons c r =>
      by_cases hc : c = 47
      · subst hc
        by_cases hr : r = []
        · subst hr; exact pathSplit_root p w hp hl hd
        · exact pathSplit_comps p r w hg hp hl hd hr
      · exact pathSplit_bare p w hp hl (fun r' h => by rw [hd] at h; injection h with h; exact hc h)

end Go.Proofs.YtoeiaffkedkepaaGreatDoor

/- Splitting a joined path gives its components. No program. -/
namespace Go.Proofs.YtoeiaffkedkepaaGreatDoor
open Go.RowKit

theorem slash_no_name {s : ByteArray} (h : vname s = true) : (47 : UInt8) ∉ s.data.toList := by
  intro hm
  unfold vname at h
  rw [Bool.and_eq_true] at h
  have hb := h.2
  unfold vbytes at hb
  rw [decide_eq_true_iff] at hb
  obtain ⟨j, hj, he⟩ := List.mem_iff_getElem.1 hm
  have hj' : j < s.size := by simpa using hj
  have h47 : s[j] = 47 := by
    have : s.data.toList[j] = s[j] := by simp [ByteArray.getElem_eq_getElem_data]
    rw [← this]; exact he
  have := hb j hj'
  rw [h47] at this
  revert this
  decide
theorem pieces_plain : ∀ (x : List UInt8), (47 : UInt8) ∉ x → pieces x = [x]
  | [], _ => rfl
  | c :: r, h => by
    have hc : c ≠ 47 := fun e => h (by simp [e])
    exact pieces_other hc (pieces_plain r (fun hm => h (by simp [hm])))
theorem pieces_cons : ∀ (x rest : List UInt8), (47 : UInt8) ∉ x → pieces (x ++ 47 :: rest) = x :: pieces rest
  | [], rest, _ => pieces_slash rest
  | c :: r, rest, h => by
    have hc : c ≠ 47 := fun e => h (by simp [e])
    exact pieces_other hc (pieces_cons r rest (fun hm => h (by simp [hm])))
theorem pieces_names : ∀ (x : ByteArray) (xs : List ByteArray), (∀ y ∈ x :: xs, vname y = true) → pieces (x.data.toList ++ xs.flatMap fun y => 47 :: y.data.toList) = (x :: xs).map (·.data.toList)
  | x, [], h => by
    rw [List.flatMap_nil, List.append_nil, pieces_plain _ (slash_no_name (h x (by simp)))]; rfl
  | x, y :: ys, h => by
    have ih := pieces_names y ys (fun z hz => h z (by simp [List.mem_cons.1 hz]))
    rw [List.flatMap_cons, List.cons_append, pieces_cons _ _ (slash_no_name (h x (by simp))), ih]; rfl
theorem comps_names (x : ByteArray) (xs : List ByteArray) (h : ∀ y ∈ x :: xs, vname y = true) : comps (x.data.toList ++ xs.flatMap fun y => 47 :: y.data.toList) = x :: xs := by
  unfold comps
  rw [pieces_names x xs h, List.map_map]
  have : (toB ∘ fun x : ByteArray => x.data.toList) = id := by funext x; exact toB_of x
  rw [this, List.map_id]

/-- A path that is joined of names splits into them. -/
theorem split_join {xs : List ByteArray} (hok : compFault xs = (0, 0)) (hl : ¬ 100 < (pstr xs).length) : splitF (toB (pstr xs)) = (0, 0) ∧ splitL (toB (pstr xs)) = xs := by
  have hv := (compFault_ok (by rw [hok])).2.2
  have hsz : ¬ 100 < (toB (pstr xs)).size := by
    have : (toB (pstr xs)).size = (pstr xs).length := by simp [toB, ByteArray.size]
    omega
  cases xs with
  | nil =>
    have h1 : splitF (toB (pstr [])) = (0, 0) := rfl
    refine ⟨h1, ?_⟩
    unfold splitL; rw [h1]; rfl
  | cons x ys =>
    have hp : pstr (x :: ys) = 47 :: (x.data.toList ++ ys.flatMap fun y => 47 :: y.data.toList) := by
      unfold pstr; rw [if_neg (by simp), List.flatMap_cons, List.cons_append]
    have hne : x.data.toList ++ (ys.flatMap fun y => 47 :: y.data.toList) ≠ [] := by
      intro e
      have h1 := (vname_size (hv x (by simp))).1
      have h2 : x.data.toList.length = x.size := by simp
      rw [(List.append_eq_nil_iff.1 e).1] at h2
      simp at h2; omega
    have hd : (toB (pstr (x :: ys))).data.toList = 47 :: (x.data.toList ++ ys.flatMap fun y => 47 :: y.data.toList) := by rw [toB_data, hp]
    have h1 : splitF (toB (pstr (x :: ys))) = (0, 0) := by
      unfold splitF
      rw [if_neg hsz, hd]
      simp only [if_true, if_neg hne]
      rw [comps_names x ys hv, hok]
    refine ⟨h1, ?_⟩
    unfold splitL
    rw [h1, hd]
    simp only [if_true, if_neg hne]
    exact comps_names x ys hv


end Go.Proofs.YtoeiaffkedkepaaGreatDoor

/- The reference's StarCount and Match at every string: a number, and whether the pattern matches (by backtracking). Condition: the strings are of at most two to the 47th, and for Match two to the 31st, bytes. -/
namespace Go.Proofs.YtoeiaffkedkepaaGreatDoor
open Go.RowKit

set_option maxHeartbeats 800000 in
theorem starCount_any (p : ByteArray) (w : World) (hp : p.size ≤ 140737488355328) :
    Calls Tryz.prog 4 #[.string p] w fun e w' => (∃ n : Nat, e = .returned (.int .i64 n)) ∧ w = w' := by
  go_enter Tryz.func4, Tryz.ntmps4
  go_wp2
  go_loop [3, 4] (fun s3 s4 => ∃ n k : Nat, k ≤ p.size ∧ n ≤ k ∧ s3 = .int .i64 n ∧ s4 = .int .i64 k) (fun _ s4 => p.size - (intOf s4).toNat)
  case atStart => exact ⟨0, 0, Nat.zero_le _, Nat.le_refl _, rfl, rfl⟩
  case round =>
    obtain ⟨n, k, hk, hn, rfl, rfl⟩ := hrel
    by_cases hlt : k < p.size
    · rcases Nat.eq_zero_or_pos k with rfl | hpos
      · go_wp2
        all_goals
          go_round
          case rel => first | exact ⟨n, 1, by omega, by omega, rfl, by go_num⟩ | exact ⟨n + 1, 1, by omega, by omega, by go_num, by go_num⟩
          case measure => simp [intOf]; omega
      · have hk0 : ((k : Int) == 0) = false := by rw [beq_eq_false_iff_ne]; omega
        have hk1 : IntKind.i64.wrap ((k : Int) - 1) = ((k - 1 : Nat) : Int) := (IntWalk.i64_in _ (by omega)).trans (by omega)
        have hk2 : k - 1 < p.size := by omega
        go_wp2
        all_goals
          go_round
          case rel => first | exact ⟨n, k + 1, by omega, by omega, rfl, by go_num⟩ | exact ⟨n + 1, k + 1, by omega, by omega, by go_num, by go_num⟩
          case measure => simp [intOf]; omega
    · go_wp2
      go_ret
      exact ⟨⟨n, rfl⟩, rfl⟩

theorem empty_of {s : ByteArray} (h : s.data.toList = []) : s = ⟨#[]⟩ := by
  apply ByteArray.ext; simpa using h
theorem size_of {s : ByteArray} : s.data.toList.length = s.size := by simp
theorem first_of {s : ByteArray} {c : UInt8} {r : List UInt8} (h : s.data.toList = c :: r) : 0 < s.size ∧ ∀ h0 : 0 < s.size, s[0] = c := by
  have hl : 0 < s.size := by rw [← size_of, h]; simp
  refine ⟨hl, fun h0 => ?_⟩
  have h1 : s.data.toList[0]? = some c := by rw [h]; rfl
  rw [List.getElem?_eq_getElem (by rw [size_of]; exact h0)] at h1
  have := Option.some.inj h1
  rw [Array.getElem_toList] at this
  exact this
theorem tail_of {s : ByteArray} {c : UInt8} {r : List UInt8} (h : s.data.toList = c :: r) : (s.extract 1 s.size).data.toList = r := by
  rw [Lib.extract_to_end, h]; rfl
theorem notEmpty {s : ByteArray} {c : UInt8} {r : List UInt8} (h : s.data.toList = c :: r) : (s.toList == []) = false := by
  rw [Lib.toList_data, h]; rfl

/-- The string's bytes are d. -/
def Txt (s : ByteArray) (l : List UInt8) : Prop := s.data.toList = l

theorem drewN_one (w : World) (b c : Nat) : (w.drewN b).drewN c = w.drewN (b + c) := by rw [World.drewN_drewN]
theorem drewN_more (w : World) (a b c : Nat) : (w.drewN (a + b)).drewN c = w.drewN (a + (b + c)) := by
  rw [World.drewN_drewN, Nat.add_assoc]

set_option maxHeartbeats 3200000 in
theorem refMatch_any : ∀ (N : Nat) (p s : ByteArray) (w : World), p.size < N → p.size ≤ 2147483648 → s.size ≤ 2147483648 →
    Calls Tryz.prog 26 #[.string p, .string s] w fun e w' => e = .returned (.bool (mat p s)) ∧ ∃ n, w' = w.drewN n := by
  intro N
  induction N with
  | zero => intro p s w hN; exact absurd hN (Nat.not_lt_zero _)
  | succ N ih =>
    intro p s w hN hp hs
    have IH := Lib.hid ih
    clear ih
    cases hpl : p.data.toList with
    | nil =>
      obtain rfl : p = ⟨#[]⟩ := empty_of hpl
      have HM := Lib.hid (show mat ⟨#[]⟩ s = s.data.toList.isEmpty from rfl)
      cases hsl : s.data.toList with
      | nil =>
        obtain rfl : s = ⟨#[]⟩ := empty_of hsl
        clear hpl hsl IH
        go_enter Tryz.func26, Tryz.ntmps26
        go_wp2
        go_ret
        exact ⟨ret_bool HM.out.symm, 0, rfl⟩
      | cons d r =>
        have hne := notEmpty hsl
        have HS := Lib.hid hsl
        clear hpl hsl IH
        go_enter Tryz.func26, Tryz.ntmps26
        go_wp2
        go_ret
        exact ⟨ret_bool (by rw [HM.out, HS.out]; rfl), 0, rfl⟩
    | cons c r0 =>
      have hne := notEmpty hpl
      obtain ⟨hp0, hpc⟩ := first_of hpl
      have hpc' := hpc hp0
      by_cases hc : c = 42
      · subst hc
        have hz : ((p[0].toNat : Int) == 42) = true := by rw [hpc']; rfl
        have PL := Lib.hid hpl
        clear hpl hpc hpc'
        go_enter Tryz.func26, Tryz.ntmps26
        go_wp2
        go_loopg [0] p.size (fun gg s0 wr => ∃ q r, s0 = .string q ∧ q.size ≤ gg ∧ q.size ≤ p.size ∧ w = wr ∧ Aside (q.data.toList = 42 :: r ∧ mat q s = mat p s))
        case atStart => exact ⟨p, r0, rfl, Nat.le_refl _, Nat.le_refl _, rfl, (show _ ∧ _ from ⟨PL.out, rfl⟩)⟩
        case round =>
        obtain ⟨q, r, rfl, hqg, hqp, rfl, A⟩ := hrel
        obtain ⟨hqr, hmq⟩ := A.out
        clear A hne
        have QR := Lib.hid hqr
        have MQ := Lib.hid hmq
        have hq0 := (first_of hqr).1
        clear hmq PL
        by_cases h2 : ∃ r2, r = 42 :: r2
        · obtain ⟨r2, rfl⟩ := h2
          have ht := tail_of hqr
          have hlen : q.size = r2.length + 2 := by rw [← size_of, hqr]; simp
          have hq1 : 1 < q.size := by omega
          have hq1c : ((q[1].toNat : Int) == 42) = true := by
            have h1 : q.data.toList[1]? = some 42 := by rw [hqr]; rfl
            rw [List.getElem?_eq_getElem (by rw [size_of]; exact hq1)] at h1
            have := Option.some.inj h1
            rw [Array.getElem_toList] at this
            rw [show q[1] = 42 from this]; rfl
          clear hqr hlen
          go_wp2
          go_roundg (q.size - 1)
          case measure => omega
          case rel =>
            refine ⟨_, r2, rfl, by rw [ByteArray.size_extract]; omega, by rw [ByteArray.size_extract]; omega, rfl, (show _ ∧ _ from ⟨ht, ?_⟩)⟩
            rw [← MQ.out]
            unfold mat lmB
            rw [ht, QR.out]
            exact (lm_stars (by rfl) (by rfl) _).symm
        · have hstop : ∀ h1 : 1 < q.size, ((q[1].toNat : Int) == 42) = false := by
            intro h1
            rw [beq_eq_false_iff_ne]; intro h3
            apply h2
            have h4 : q.data.toList[1]? = some q[1] := by rw [List.getElem?_eq_getElem (by rw [size_of]; exact h1), Array.getElem_toList]; rfl
            rw [hqr, List.getElem?_cons_succ] at h4
            cases r with
            | nil => cases h4
            | cons x r2 =>
              have h5 : x = q[1] := Option.some.inj h4
              refine ⟨r2, ?_⟩
              rw [h5]; congr 1
              apply UInt8.toNat_inj.1
              show q[1].toNat = 42
              omega
          clear hqr h2
          by_cases h1 : 1 < q.size
          · have hstop1 := hstop h1
            clear hstop
            go_wp2

            go_loopg [5] (s.size + 1) (fun gg s5 wr => ∃ k : Nat, s5 = .int .i64 k ∧ k ≤ s.size + 1 ∧ s.size + 1 - k ≤ gg ∧ Aside ((∃ n, wr = w.drewN n) ∧ ∀ j, j < k → lmB r (s.data.toList.drop j) = false))
            case atStart => exact ⟨0, rfl, Nat.zero_le _, by omega, (show _ ∧ _ from ⟨⟨0, rfl⟩, fun j hj => absurd hj (Nat.not_lt_zero _)⟩)⟩
            case round =>
              obtain ⟨k, rfl, hk, hg2, A⟩ := hrel
              obtain ⟨⟨n0, rfl⟩, hno⟩ := A.out
              clear A
              have NO := Lib.hid hno
              clear hno
              by_cases hks : k ≤ s.size
              · have hq1 : (q.extract 1 q.size).size < N ∧ (q.extract 1 q.size).size ≤ 2147483648 := by
                  have h := tail_of QR.out
                  have h2 := first_of QR.out
                  have h3 : (q.extract 1 q.size).size = q.size - 1 := by rw [ByteArray.size_extract]; omega
                  omega
                have hs1 : (s.extract k s.size).size ≤ 2147483648 := by rw [ByteArray.size_extract]; omega
                have c1 := fun W => IH.out (q.extract 1 q.size) (s.extract k s.size) W hq1.1 hq1.2 hs1
                have hm : mat (q.extract 1 q.size) (s.extract k s.size) = lmB r (s.data.toList.drop k) := by unfold mat; rw [tail_of QR.out, Lib.extract_to_end]
                clear hq1 hs1
                have l1 : 1 ≤ q.size := hq0
                have l2 : (1 : Int) ≤ (q.size : Int) := by omega
                have l3 : (k : Int) ≤ (s.size : Int) := by omega
                cases hb : lmB r (s.data.toList.drop k) with
                | true =>
                  rw [hm, hb] at c1
                  have C1 := Lib.hid c1
                  have HB := Lib.hid hb
                  clear c1 hm hb
                  go_wp2
                  go_quiet ((go_at_call 26; refine (C1.out _).mono ?_; rintro e _ ⟨rfl, _, rfl⟩; exact ⟨rfl, _, drewN_more _ _ _ _⟩))
                  go_wp2
                  go_ret
                  refine ⟨ret_bool ?_, _, by simp; rfl⟩
                  rw [← MQ.out, eq_comm]
                  unfold mat lmB
                  rw [QR.out]
                  exact (lm_star (by rfl)).2 ⟨k, by rw [size_of]; exact hks, HB.out⟩
                | false =>
                  rw [hm, hb] at c1
                  have C1 := Lib.hid c1
                  have HB := Lib.hid hb
                  clear c1 hm hb
                  go_wp2
                  go_quiet ((go_at_call 26; refine (C1.out _).mono ?_; rintro e _ ⟨rfl, _, rfl⟩; exact ⟨rfl, _, drewN_more _ _ _ _⟩))
                  go_wp2
                  go_roundg (s.size + 1 - (k + 1))
                  case measure => omega
                  case rel =>
                    refine ⟨k + 1, by go_num, by omega, by omega, (show _ ∧ _ from ⟨⟨_, rfl⟩, fun j hj => ?_⟩)⟩
                    by_cases e : j = k
                    · subst e; exact HB.out
                    · exact NO.out j (by omega)
              · have hks2 : ¬ (k : Int) ≤ (s.size : Int) := by omega
                go_wp2
                go_ret
                refine ⟨ret_bool ?_, _, rfl⟩
                rw [← MQ.out, eq_comm, Bool.eq_false_iff]
                intro h
                unfold mat lmB at h
                rw [QR.out] at h
                obtain ⟨j, hj, h2⟩ := (lm_star (by rfl)).1 h
                have h3 := NO.out j (by rw [size_of] at hj; omega)
                unfold lmB at h3
                rw [h3] at h2; cases h2

          · clear hstop
            go_wp2

            go_loopg [5] (s.size + 1) (fun gg s5 wr => ∃ k : Nat, s5 = .int .i64 k ∧ k ≤ s.size + 1 ∧ s.size + 1 - k ≤ gg ∧ Aside ((∃ n, wr = w.drewN n) ∧ ∀ j, j < k → lmB r (s.data.toList.drop j) = false))
            case atStart => exact ⟨0, rfl, Nat.zero_le _, by omega, (show _ ∧ _ from ⟨⟨0, rfl⟩, fun j hj => absurd hj (Nat.not_lt_zero _)⟩)⟩
            case round =>
              obtain ⟨k, rfl, hk, hg2, A⟩ := hrel
              obtain ⟨⟨n0, rfl⟩, hno⟩ := A.out
              clear A
              have NO := Lib.hid hno
              clear hno
              by_cases hks : k ≤ s.size
              · have hq1 : (q.extract 1 q.size).size < N ∧ (q.extract 1 q.size).size ≤ 2147483648 := by
                  have h := tail_of QR.out
                  have h2 := first_of QR.out
                  have h3 : (q.extract 1 q.size).size = q.size - 1 := by rw [ByteArray.size_extract]; omega
                  omega
                have hs1 : (s.extract k s.size).size ≤ 2147483648 := by rw [ByteArray.size_extract]; omega
                have c1 := fun W => IH.out (q.extract 1 q.size) (s.extract k s.size) W hq1.1 hq1.2 hs1
                have hm : mat (q.extract 1 q.size) (s.extract k s.size) = lmB r (s.data.toList.drop k) := by unfold mat; rw [tail_of QR.out, Lib.extract_to_end]
                clear hq1 hs1
                have l1 : 1 ≤ q.size := hq0
                have l2 : (1 : Int) ≤ (q.size : Int) := by omega
                have l3 : (k : Int) ≤ (s.size : Int) := by omega
                cases hb : lmB r (s.data.toList.drop k) with
                | true =>
                  rw [hm, hb] at c1
                  have C1 := Lib.hid c1
                  have HB := Lib.hid hb
                  clear c1 hm hb
                  go_wp2
                  go_quiet ((go_at_call 26; refine (C1.out _).mono ?_; rintro e _ ⟨rfl, _, rfl⟩; exact ⟨rfl, _, drewN_more _ _ _ _⟩))
                  go_wp2
                  go_ret
                  refine ⟨ret_bool ?_, _, by simp; rfl⟩
                  rw [← MQ.out, eq_comm]
                  unfold mat lmB
                  rw [QR.out]
                  exact (lm_star (by rfl)).2 ⟨k, by rw [size_of]; exact hks, HB.out⟩
                | false =>
                  rw [hm, hb] at c1
                  have C1 := Lib.hid c1
                  have HB := Lib.hid hb
                  clear c1 hm hb
                  go_wp2
                  go_quiet ((go_at_call 26; refine (C1.out _).mono ?_; rintro e _ ⟨rfl, _, rfl⟩; exact ⟨rfl, _, drewN_more _ _ _ _⟩))
                  go_wp2
                  go_roundg (s.size + 1 - (k + 1))
                  case measure => omega
                  case rel =>
                    refine ⟨k + 1, by go_num, by omega, by omega, (show _ ∧ _ from ⟨⟨_, rfl⟩, fun j hj => ?_⟩)⟩
                    by_cases e : j = k
                    · subst e; exact HB.out
                    · exact NO.out j (by omega)
              · have hks2 : ¬ (k : Int) ≤ (s.size : Int) := by omega
                go_wp2
                go_ret
                refine ⟨ret_bool ?_, _, rfl⟩
                rw [← MQ.out, eq_comm, Bool.eq_false_iff]
                intro h
                unfold mat lmB at h
                rw [QR.out] at h
                obtain ⟨j, hj, h2⟩ := (lm_star (by rfl)).1 h
                have h3 := NO.out j (by rw [size_of] at hj; omega)
                unfold lmB at h3
                rw [h3] at h2; cases h2

      · have hst : starB c = false := by unfold starB; simpa using hc
        have hz : ((p[0].toNat : Int) == 42) = false := by
          rw [hpc', beq_eq_false_iff_ne]; intro h; apply hc; apply UInt8.toNat_inj.1; show c.toNat = 42; omega
        cases hsl : s.data.toList with
        | nil =>
          obtain rfl : s = ⟨#[]⟩ := empty_of hsl
          have HM := Lib.hid (show mat p ⟨#[]⟩ = false by unfold mat lmB; rw [hpl]; exact lm_none hst)
          clear hpl hsl IH hpc hpc' hst hc
          go_enter Tryz.func26, Tryz.ntmps26
          go_wp2
          go_quiet (fail)
          go_wp2
          go_ret
          exact ⟨ret_bool HM.out.symm, _, rfl⟩
        | cons d r =>
          have hne2 := notEmpty hsl
          obtain ⟨hs0, hsc⟩ := first_of hsl
          have hsc' := hsc hs0
          have hM : mat p s = (fitB c d && lmB r0 r) := by unfold mat lmB; rw [hpl, hsl]; exact lm_one hst
          have hq1 : (p.extract 1 p.size).size < N ∧ (p.extract 1 p.size).size ≤ 2147483648 := by
            have h3 : (p.extract 1 p.size).size = p.size - 1 := by rw [ByteArray.size_extract]; omega
            omega
          have hs1 : (s.extract 1 s.size).size ≤ 2147483648 := by rw [ByteArray.size_extract]; omega
          have c1 := fun W => IH.out (p.extract 1 p.size) (s.extract 1 s.size) W hq1.1 hq1.2 hs1
          rw [show mat (p.extract 1 p.size) (s.extract 1 s.size) = lmB r0 r from by unfold mat; rw [tail_of hpl, tail_of hsl]] at c1
          have hQ : ((p[0].toNat : Int) == 63) = (c == 63) := by rw [hpc']; exact eq_u8 c 63 (by decide)
          have hE : ((p[0].toNat : Int) == (s[0].toNat : Int)) = (c == d) := by rw [hpc', hsc']; exact eq_u8s c d
          have C1 := Lib.hid c1
          have l1 : 1 ≤ p.size := hp0
          have l2 : (1 : Int) ≤ (p.size : Int) := by omega
          have l3 : 1 ≤ s.size := hs0
          have l4 : (1 : Int) ≤ (s.size : Int) := by omega
          have HM := Lib.hid hM
          clear hpl hsl hpc hpc' hsc hsc' hst hc c1 hM hq1 hs1 IH
          cases h63 : c == 63 with
          | true =>
            rw [h63] at hQ
            have HF := Lib.hid (show fitB c d = true by unfold fitB; rw [h63]; rfl)
            clear hE h63
            go_enter Tryz.func26, Tryz.ntmps26
            go_wp2
            go_quiet ((go_at_call 26; refine (C1.out _).mono ?_; rintro e _ ⟨rfl, _, rfl⟩; exact ⟨rfl, _, drewN_one _ _ _⟩))
            go_wp2
            go_ret
            exact ⟨ret_bool (by rw [HM.out, HF.out, Bool.true_and]), _, rfl⟩
          | false =>
            rw [h63] at hQ
            cases hcd : c == d with
            | true =>
              rw [hcd] at hE
              have HF := Lib.hid (show fitB c d = true by unfold fitB; rw [h63, hcd]; rfl)
              clear h63 hcd
              go_enter Tryz.func26, Tryz.ntmps26
              go_wp2
              go_quiet ((go_at_call 26; refine (C1.out _).mono ?_; rintro e _ ⟨rfl, _, rfl⟩; exact ⟨rfl, _, drewN_one _ _ _⟩))
              go_wp2
              go_ret
              exact ⟨ret_bool (by rw [HM.out, HF.out, Bool.true_and]), _, rfl⟩
            | false =>
              rw [hcd] at hE
              have HF := Lib.hid (show fitB c d = false by unfold fitB; rw [h63, hcd]; rfl)
              clear h63 hcd
              go_enter Tryz.func26, Tryz.ntmps26
              go_wp2
              go_quiet (fail)
              go_wp2
              go_ret
              exact ⟨ret_bool (by rw [HM.out, HF.out, Bool.false_and]), _, rfl⟩

end Go.Proofs.YtoeiaffkedkepaaGreatDoor
