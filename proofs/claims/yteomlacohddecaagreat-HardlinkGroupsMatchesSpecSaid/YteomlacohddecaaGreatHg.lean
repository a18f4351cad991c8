/- HardlinkGroupsMatchesSpec: for every tree, hardlink.Groups returns the fault that the reference's ValidateTree returns, and for a valid tree the groups that the reference returns; hardlink.Counts of the sample tree is 0, 1, 1; the argument is left as it was.
   Condition: as each theorem states; this text: HlRows, HlGrp, HlCounts, FsPathsOf, HlGroups, HlGroups2, FsRefPaths, HlRefGroups, FsSample, HlLawGroups, HlGroupsProof. -/
import Derived.Test.YteomlacohddecaaGreatFsSort0
import Derived.Deep.RegionHeld3
import Derived.Deep.AppendLies
import Derived.Deep.DeepAppendWide
import Derived.Deep.Quiet
import Derived.Test.YteomlacohddecaaGreatFsPaths
import Derived.Test.YteomlacohddecaaGreatFsSpec
import Derived.Test.YteomlacohddecaaGreatFsRefs
import Derived.Test.YteomlacohddecaaGreatFsValid
import Derived.Test.YteomlacohddecaaGreatFsAllP
import Derived.Test.YteomlacohddecaaGreatShelf
import Derived.Test.YteomlacohddecaaGreatAttrLeaves
import Derived.Shelf.SlSortCmp.NoneTotal
import Derived.Shelf.SlSortFunc.HeapSort
import Derived.Test.YteomlacohddecaaGreatFsRefUse
import Derived.Test.YteomlacohddecaaGreatFsSort
import Derived.Test.YteomlacohddecaaGreatFsLink
import Derived.Test.YteomlacohddecaaGreatFsTree
import Derived.Lib.SlBytesConst
import Derived.Test.YteomlacohddecaaGreatFsVTree
import Derived.Test.YteomlacohddecaaGreatRows
import Derived.Test.YteomlacohddecaaGreatFsArg
import Derived.ProofKit
import Derived.SizedLaws
import Derived.OpenShut
import Derived.ShutString
import Derived.ChangeMaps5

set_option linter.all false

/- Slices of slices of strings in memory (rows of one-cell values), appends to such a row as a call owns it. Conditions: as each theorem states. -/

set_option linter.all false
namespace Go.Proofs.YteomlacohddecaaGreat
open Go.RowKit

def U0 : Value := .bool false
theorem valD {us : List Value} {k : Nat} (h : k < us.length) : us.getD k U0 = us[k] := by
  rw [List.getD_eq_getElem?_getD, List.getElem?_eq_getElem h]; rfl
/-- The slice value v reads as the one-cell values us, all below block B. -/
def Vals (w : World) (B : Nat) (v : Value) (us : List Value) : Prop :=
  ∃ a c, v = .slice a us.length c ∧ us.length ≤ c ∧ us.length ≤ 35184372088832 ∧ (∀ u ∈ us, u.oneCell' = true) ∧
    (0 < us.length → ∃ b o, a = some ⟨b, o, none⟩ ∧ b < B ∧ ∀ j, j < us.length → w.cell? ⟨b, o + j, none⟩ = some (us.getD j U0))
theorem Vals.below {w w' : World} {B : Nat} {v : Value} {us : List Value} (h : Vals w B v us) (hb : Below B w w') : Vals w' B v us := by
  obtain ⟨a, c, hv, hc, hl, hs, hx⟩ := h
  refine ⟨a, c, hv, hc, hl, hs, fun h0 => ?_⟩
  obtain ⟨b, o, ha, hB, hj⟩ := hx h0
  exact ⟨b, o, ha, hB, fun j h => (hb.cell (p := ⟨b, o + j, none⟩) hB).trans (hj j h)⟩
theorem Vals.more {w : World} {B B' : Nat} {v : Value} {us : List Value} (h : Vals w B v us) (hB : B ≤ B') : Vals w B' v us := by
  obtain ⟨a, c, hv, hc, hl, hs, hx⟩ := h
  refine ⟨a, c, hv, hc, hl, hs, fun h0 => ?_⟩
  obtain ⟨b, o, ha, hb, hj⟩ := hx h0
  exact ⟨b, o, ha, by omega, hj⟩
theorem Vals.up {w w' : World} {v : Value} {us : List Value} (h : Vals w w.heap.size v us) (hb : Below w.heap.size w w') : Vals w' w'.heap.size v us := (h.below hb).more hb.size
theorem Vals.alloc {w : World} {B : Nat} {v : Value} {us : List Value} (h : Vals w B v us) (hB : B ≤ w.heap.size) (o : Obj) : Vals (w.alloc o) B v us :=
  h.below ((Below.refl B w).alloc hB o)
theorem Vals.drew {w : World} {B : Nat} {v : Value} {us : List Value} (h : Vals w B v us) : Vals w.drew B v us := h
theorem Vals.drewN {w : World} {B : Nat} {v : Value} {us : List Value} (h : Vals w B v us) (q : Nat) : Vals (w.drewN q) B v us := h
theorem Vals.spot {w : World} {B n c : Nat} {a : Option Addr} {us : List Value} (h : Vals w B (.slice a n c) us) (h0 : 0 < us.length) : ∃ b o, a = some ⟨b, o, none⟩ ∧ b < B ∧ ∀ j, j < us.length → w.cell? ⟨b, o + j, none⟩ = some (us.getD j U0) := by
  obtain ⟨a', c', hv, _, _, _, hx⟩ := h
  injection hv with h1 _ h2
  subst h1
  exact hx h0
theorem Vals.form {w : World} {B n : Nat} {v : Value} {us : List Value} (h : Vals w B v us) (hn : us.length = n) : ∃ a c, v = .slice a n c ∧ n ≤ c := by
  subst hn
  obtain ⟨a, c, hv, hc, _⟩ := h
  exact ⟨a, c, hv, hc⟩
theorem Vals.none_ (w : World) (B : Nat) : Vals w B (.slice none 0 0) [] :=
  ⟨none, 0, rfl, by simp, by simp, by simp, fun h => absurd h (by simp)⟩
theorem Vals.empty (w : World) (B : Nat) (a : Option Addr) (c : Nat) : Vals w B (.slice a 0 c) [] :=
  ⟨a, c, rfl, by simp, by simp, by simp, fun h => absurd h (by simp)⟩
theorem Vals.cut {w : World} {B : Nat} {a : Option Addr} {n c : Nat} {us : List Value} (h : Vals w B (.slice a n c) us) {k : Nat} (hk : k ≤ n) : Vals w B (.slice a k c) (us.take k) := by
  obtain ⟨a', c', hv, hc, hl, hf, hx⟩ := h
  injection hv with h1 hn h2
  subst h1 h2 hn
  have hlen : (us.take k).length = k := by simp; omega
  refine ⟨a, c, by rw [hlen], by omega, by omega, fun e he => hf e (List.mem_of_mem_take he), fun h0 => ?_⟩
  obtain ⟨b, o, ha, hB, hj⟩ := hx (by omega)
  refine ⟨b, o, ha, hB, fun j h => ?_⟩
  have e : (us.take k).getD j U0 = us.getD j U0 := by
    rw [List.getD_eq_getElem?_getD, List.getD_eq_getElem?_getD, List.getElem?_take_of_lt (by omega)]
  rw [e]; exact hj j (by omega)
theorem Vals.from_ {w : World} {B b o n c : Nat} {us : List Value} (h : Vals w B (.slice (some ⟨b, o, none⟩) n c) us) {k : Nat} (hk : k ≤ n) : Vals w B (.slice (some ⟨b, o + k, none⟩) (n - k) (c - k)) (us.drop k) := by
  obtain ⟨a', c', hv, hc, hl, hf, hx⟩ := h
  injection hv with h1 hn h2
  subst h1 h2 hn
  have hlen : (us.drop k).length = us.length - k := by simp
  refine ⟨_, c - k, by rw [hlen], by omega, by omega, fun e he => hf e (List.mem_of_mem_drop he), fun h0 => ?_⟩
  obtain ⟨b', o', ha, hB, hj⟩ := hx (by omega)
  injection ha with ha
  injection ha with ha1 ha2
  subst ha1 ha2
  refine ⟨b, _, rfl, hB, fun j h => ?_⟩
  have e : (us.drop k).getD j U0 = us.getD (k + j) U0 := by
    rw [List.getD_eq_getElem?_getD, List.getD_eq_getElem?_getD, List.getElem?_drop]
  rw [e]
  have := hj (k + j) (by omega)
  rw [show o + k + j = o + (k + j) by omega]; exact this
theorem vals_cell {w : World} {B g : Nat} {y : Value} (hc : w.cell? ⟨g, 0, none⟩ = some y) (hg : g < B) (hy : y.oneCell' = true) : Vals w B (.slice (some ⟨g, 0, none⟩) 1 1) [y] := by
  refine ⟨_, _, rfl, by simp, by simp, by simpa using hy, fun _ => ⟨_, _, rfl, hg, ?_⟩⟩
  intro j hj
  match j, hj with
  | 0, _ => simpa using hc
theorem vals_row {w : World} {base n : Nat} {v : Value} {us : List Value} (h : w.ownsRow base 39 1 v n us) (hf : ∀ u ∈ us, u.oneCell' = true) (hl : us.length ≤ 35184372088832) : Vals w w.heap.size v us := by
  have hn : n = us.length := by have := h.1; simp at this; omega
  subst hn
  rcases h.2 with ⟨hv, h0⟩ | ⟨g, cap, cur, hv, _, hg, hnc, _, _, _⟩
  · have : us = [] := List.eq_nil_of_length_eq_zero h0
    subst this
    rw [hv]
    exact ⟨none, 0, rfl, by simp, by simp, by simp, fun h => absurd h (by simp)⟩
  · have hlt : g < w.heap.size := (Array.getElem?_eq_some_iff.1 hg).1
    rw [hv] at h
    refine ⟨_, cap, hv, hnc, hl, hf, fun _ => ⟨g, 0, rfl, hlt, fun j hj => ?_⟩⟩
    rw [Nat.zero_add, h.cellAt j (by omega), List.getD_eq_getElem?_getD, List.getElem?_eq_getElem hj]
    rfl

theorem rows_info : (Tryz.prog.info? 39).map (fun i => (i.zero, i.size, i.bytes)) = some (some (.slice none 0 0), 1, 24) := by kernel_rfl
/-- An append of one-cell values to an owned row, as a step of a region that draws its order. -/
theorem step_append_vals {w : World} {ops : Array Oper} {o : Oper} {a : Act} {K : Act → World → Prop} {Q : Exit → Act → World → Prop} {E : Prop} (hgd : o.guard = none) (s x : Operand)
    (ho : o.op = .call { callee := .builtin .append, args := #[s, x], argTypes := #[25, 25] })
    (base : Nat) (v : Value) (n : Nat) (xs : List Value) (hs : a.eval s = v) (hown : w.ownsRow base 39 1 v n xs)
    (B : Nat) (u : Value) (ys : List Value) (hx : a.eval x = u) (hA : Vals w B u ys)
    (hn : n + ys.length ≤ 100000) (hbase : base ≤ w.heap.size)
    (hK : ∀ v' w', w'.ownsRow base 39 1 v' (n + ys.length) (xs ++ ys) → w.grownBy w' v.ownBlock → K (a.put o.dst v') w') :
    if Region.wanted o (yielded ops a.tmps) = true then Oper.wp Tryz.prog o a w K Q else E := by
  have hw : Region.wanted o (yielded ops a.tmps) = true := by simp [Region.wanted, hgd]
  rw [if_pos hw]
  obtain ⟨i, hi, hz0, hz1, hz2⟩ := info_parts rows_info
  obtain ⟨ad, c, rfl, hc, hl, hf, hcell⟩ := hA
  have key : ∀ g : Addr, ad = some g → (∀ j u, ys[j]? = some u → w.cell? (g.add j) = some u) → Oper.wp Tryz.prog o a w K Q := fun g hg hcl => by
    subst hg
    obtain ⟨v', w', hrun, r1, r2, _⟩ := run_append_own_wide (P := Tryz.prog) w base 25 o.type 39 i _ 1 24 Tryz.underlying25 hi hz0 hz1 hz2 rfl (by decide) v n xs hown g ys.length c ys (by simp) hcl hf (by unfold maxLen; omega) (by omega) hbase
    unfold Oper.wp
    simp [execOp, ho, resolve, invoke, builtin, hs, hx, hrun, Result.andThen]
    exact hK v' w' r1 r2
  by_cases h0 : ys.length = 0
  · have he : ys = [] := List.eq_nil_of_length_eq_zero h0
    subst he
    cases ad with
    | none =>
      have hrun : (Builtin.append_ #[25, 25] o.type #[v, .slice none 0 c]).run Tryz.prog w = .ok v w := by
        rcases hown.2 with ⟨rfl, _⟩ | ⟨g, cap, cur, rfl, _, _, hnc, _⟩
        · simp [Builtin.append_, run_underlying Tryz.underlying25, sizeOf, typeInfo, hi, Builtin.lenOf, Builtin.firstCells]
        · simp [Builtin.append_, run_underlying Tryz.underlying25, sizeOf, typeInfo, hi, Builtin.lenOf, Builtin.firstCells, hnc, storeCells]
      unfold Oper.wp
      simp [execOp, ho, resolve, invoke, builtin, hs, hx, hrun, Result.andThen]
      exact hK v w (by simpa using hown) (World.grownBy.refl _ _)
    | some g => exact key g rfl (by intro j u hu; simp at hu)
  · obtain ⟨b, of, rfl, hB, hj⟩ := hcell (by omega)
    refine key _ rfl fun j u hu => ?_
    have hjl : j < ys.length := (List.getElem?_eq_some_iff.1 hu).1
    have e : u = ys.getD j U0 := by
      rw [List.getElem?_eq_getElem hjl] at hu
      rw [valD hjl]
      exact (Option.some.inj hu).symm
    have hadd : (⟨b, of, none⟩ : Addr).add j = ⟨b, of + j, none⟩ := by unfold Addr.add; split <;> simp_all
    rw [e, hadd]
    exact hj j hjl
/-- An append of one slice value. -/
theorem wpList_append_val {w : World} {ops : Array Oper} {rest : List Oper} {o : Oper} {a : Act} {Q : Exit → Act → World → Prop} (hgd : o.guard = none) (s x : Operand)
    (ho : o.op = .call { callee := .builtin .append, args := #[s, x], argTypes := #[25, 25] })
    (base : Nat) (v : Value) (n : Nat) (xs : List Value) (hs : a.eval s = v) (hown : w.ownsRow base 39 1 v n xs)
    (g : Nat) (y : Value) (hy : y.oneCell' = true) (hx : a.eval x = .slice (some ⟨g, 0, none⟩) 1 1) (hc : w.cell? ⟨g, 0, none⟩ = some y)
    (hn : n ≤ 100000) (hbase : base ≤ w.heap.size)
    (h : ∀ v' w', w'.ownsRow base 39 1 v' (n + 1) (xs ++ [y]) → w.grownBy w' v.ownBlock → wpList Tryz.prog ops Q rest (a.put o.dst v') w') : wpList Tryz.prog ops Q (o :: rest) a w := by
  obtain ⟨i0, hi, hz0, hz1, hz2⟩ := info_parts rows_info
  refine wpList_append_own w hgd s x 25 ho base 39 i0 _ 1 24 Tryz.underlying25 hi hz0 hz1 hz2 rfl (by omega) v n xs hs hown ⟨g, 0, none⟩ 1 1 [y] hx rfl (by
    intro j u hu
    match j, hu with
    | 0, hu =>
      have e : u = y := by simpa using hu.symm
      rw [e]; simpa [Addr.add] using hc
    | j + 1, hu => simp at hu) (by simpa using hy) (by unfold maxLen; omega) (by omega) hbase fun v' w' h1 h2 _ => h v' w' h1 h2

end Go.Proofs.YteomlacohddecaaGreat

/- The files with several names, and their paths, in plain words. Conditions: the tree is valid. -/

set_option linter.all false
namespace Go.Proofs.YteomlacohddecaaGreat
open Go.RowKit

/-- The paths of an inode, ascending. -/
def pths (t : Tr) (n : Nat) : List ByteArray := (pathsW (fun m => (m : Int) == (n : Int)) (visits t 0)).mergeSort fun a b => !ltS b a
theorem asc_of_sort {L : List ByteArray} (hn : L.Nodup) : AscOf (L.mergeSort fun a b => !ltS b a) L := by
  have hp := List.mergeSort_perm L (fun a b => !ltS b a)
  refine ⟨?_, fun x => hp.mem_iff⟩
  have h1 : (L.mergeSort fun a b => !ltS b a).Pairwise (fun a b => (!ltS b a) = true) := by
    refine List.pairwise_mergeSort ?_ ?_ L
    · intro a b c h1 h2
      cases h3 : ltS c a with
      | false => rfl
      | true =>
        simp only [Bool.not_eq_true'] at h1 h2
        have := ltS_trans' h2 h3
        rw [this] at h1; cases h1
    · intro a b
      cases h3 : ltS b a with
      | false => simp
      | true => simp [ltS_asymm h3]
  have h2 : (L.mergeSort fun a b => !ltS b a).Nodup := hp.nodup_iff.2 hn
  unfold Asc
  refine (h1.and h2).imp ?_
  intro a b h
  exact ltS_of (by simpa using h.1) (fun e => h.2 e.symm)
theorem pths_asc {t : Tr} (o2 : Ok2 t) (n : Nat) : AscOf (pths t n) (pathsW (fun m => (m : Int) == (n : Int)) (visits t 0)) :=
  asc_of_sort (pathsW_nodup o2.toOk1 o2.from0 _ (List.Perm.refl _))
theorem pths_eq {t : Tr} (o2 : Ok2 t) {n : Nat} {P : List ByteArray} (h : AscOf P (pathsW (fun m => (m : Int) == (n : Int)) (visits t 0))) : P = pths t n :=
  asc_unique h.1 (pths_asc o2 n).1 (fun x => (h.2 x).trans ((pths_asc o2 n).2 x).symm)
theorem pths_len {t : Tr} (o2 : Ok2 t) (n : Nat) : (pths t n).length ≤ 641 := by
  unfold pths
  rw [List.length_mergeSort]
  exact Nat.le_trans (pathsW_len _ _) (len_visits o2.toOk1 o2.from0)
/-- The first path of an inode. -/
def hdP (t : Tr) (n : Nat) : ByteArray := (pths t n).getD 0 ByteArray.empty
/-- The inodes below k with several names. -/
def gN (t : Tr) (k : Nat) : List Nat := (List.range k).filter fun n => decide (1 < refs t n)
theorem gN_zero (t : Tr) : gN t 0 = [] := rfl
theorem gN_succ (t : Tr) (k : Nat) : gN t (k + 1) = if 1 < refs t k then gN t k ++ [k] else gN t k := by
  unfold gN
  rw [List.range_succ, List.filter_append]
  by_cases h : 1 < refs t k <;> simp [h]
theorem gN_len (t : Tr) (k : Nat) : (gN t k).length ≤ k := by
  unfold gN
  have := List.length_filter_le (fun n => decide (1 < refs t n)) (List.range k)
  simpa using this
theorem gN_mem {t : Tr} {k n : Nat} : n ∈ gN t k ↔ n < k ∧ 1 < refs t n := by
  unfold gN; simp
theorem refs_used {t : Tr} (h : Ok1 t) {n : Nat} (hr : 0 < refs t n) : n < t.length ∧ (nod t n).k ≠ 0 := by
  unfold refs at hr
  rw [List.countP_pos_iff] at hr
  obtain ⟨e, he, hi⟩ := hr
  obtain ⟨x, hx, hex⟩ := List.mem_flatMap.1 he
  obtain ⟨j, hj, rfl⟩ := List.mem_iff_getElem.1 hx
  have hk : e ∈ kids t j := by unfold kids; rw [nod_at hj]; exact hex
  have := h.kid hk
  have e1 : e.i = (n : Int) := by simpa using hi
  rw [e1] at this
  exact ⟨by simpa using this.2.2.1, by simpa using this.2.2.2.1⟩
theorem pths_ne {t : Tr} (hd : Head t) (p4 : Pass t 4) {n : Nat} (hr : 0 < refs t n) : 0 < (pths t n).length := by
  have o2 := Pass.ok2 hd (p4.mono (by omega))
  obtain ⟨h1, h2⟩ := refs_used o2.toOk1 hr
  obtain ⟨_, zs, hz⟩ := Pass.from_ hd (p4.mono (by omega)) h1 h2
  have hv := (mem_visits o2.from0.fin (ys := zs) (m := n)).2 hz
  have hm : bP zs ∈ pths t n := by
    rw [(pths_asc o2 n).2]
    unfold pathsW
    exact List.mem_map.2 ⟨(zs, n), List.mem_filter.2 ⟨hv, by simp⟩, rfl⟩
  exact List.length_pos_of_mem hm
theorem hdP_mem {t : Tr} {n : Nat} (h : 0 < (pths t n).length) : hdP t n ∈ pths t n := by
  unfold hdP; rw [strD h]; exact List.getElem_mem h
theorem hdP_inj {t : Tr} (o2 : Ok2 t) {n m : Nat} (hn : 0 < (pths t n).length) (hm : 0 < (pths t m).length) (h : hdP t n = hdP t m) : n = m := by
  have h1 := ((pths_asc o2 n).2 _).1 (hdP_mem hn)
  have h2 := ((pths_asc o2 m).2 _).1 (hdP_mem hm)
  unfold pathsW at h1 h2
  obtain ⟨p, hp, ep⟩ := List.mem_map.1 h1
  obtain ⟨q, hq, eq⟩ := List.mem_map.1 h2
  obtain ⟨hp1, hp2⟩ := List.mem_filter.1 hp
  obtain ⟨hq1, hq2⟩ := List.mem_filter.1 hq
  have e1 : p.2 = n := by have : (p.2 : Int) = (n : Int) := by simpa using hp2
                          omega
  have e2 : q.2 = m := by have : (q.2 : Int) = (m : Int) := by simpa using hq2
                          omega
  have e3 : bP p.1 = bP q.1 := by rw [ep, eq, h]
  have hnd := pathsW_nodup o2.toOk1 o2.from0 (fun _ => true) (List.Perm.refl (visits t 0))
  unfold pathsW at hnd
  have hf : (visits t 0).filter (fun p => (fun _ : Nat => true) p.2) = visits t 0 := by simp
  rw [hf] at hnd
  obtain ⟨i, hi, e4⟩ := List.mem_iff_getElem.1 hp1
  obtain ⟨j, hj, e5⟩ := List.mem_iff_getElem.1 hq1
  have key : i = j := by
    rcases Nat.lt_trichotomy i j with hlt | hlt | hlt
    · have := List.pairwise_iff_getElem.1 hnd i j (by simpa using hi) (by simpa using hj) hlt
      simp only [List.getElem_map, e4, e5] at this
      exact absurd e3 this
    · exact hlt
    · have := List.pairwise_iff_getElem.1 hnd j i (by simpa using hj) (by simpa using hi) hlt
      simp only [List.getElem_map, e4, e5] at this
      exact absurd e3.symm this
  subst key
  rw [← e1, ← e2, ← e4, ← e5]
/-- These inodes in the order of their first paths. -/
def SrtG (t : Tr) (M : List Nat) (G : List Nat) : Prop := M.Perm G ∧ M.Pairwise fun a b => ltS (hdP t a) (hdP t b) = true
theorem srt_unique (f : Nat → ByteArray) : ∀ (A B : List Nat), A.Perm B → A.Pairwise (fun a b => ltS (f a) (f b) = true) → B.Pairwise (fun a b => ltS (f a) (f b) = true) → A = B
  | [], B, h, _, _ => by rw [List.nil_perm.1 h]
  | a :: A, [], h, _, _ => absurd h.length_eq (by simp)
  | a :: A, b :: B, h, ha, hb => by
    have ha2 := List.pairwise_cons.1 ha
    have hb2 := List.pairwise_cons.1 hb
    have e : a = b := by
      have h1 : a ∈ b :: B := h.mem_iff.1 (by simp)
      have h2 : b ∈ a :: A := h.mem_iff.2 (by simp)
      rcases List.mem_cons.1 h1 with h1 | h1
      · exact h1
      · rcases List.mem_cons.1 h2 with h2 | h2
        · exact h2.symm
        · have h3 := ltS_asymm (hb2.1 a h1)
          rw [ha2.1 b h2] at h3; cases h3
    subst e
    rw [srt_unique f A B (List.Perm.cons_inv h) ha2.2 hb2.2]
theorem SrtG.unique {t : Tr} {A B G : List Nat} (h : SrtG t A G) (k : SrtG t B G) : A = B := srt_unique (hdP t) A B (h.1.trans k.1.symm) h.2 k.2
theorem natD {M : List Nat} {k : Nat} (h : k < M.length) : M.getD k 0 = M[k] := by
  rw [List.getD_eq_getElem?_getD, List.getElem?_eq_getElem h]; rfl
theorem SrtG.ins {t : Tr} {M G : List Nat} (h : SrtG t M G) {n k : Nat} (hk : k ≤ M.length) (h1 : ∀ j, j < k → ltS (hdP t (M.getD j 0)) (hdP t n) = true) (h2 : k < M.length → ltS (hdP t n) (hdP t (M.getD k 0)) = true) : SrtG t (M.take k ++ [n] ++ M.drop k) (G ++ [n]) := by
  have hlt : ∀ a ∈ M.take k, ltS (hdP t a) (hdP t n) = true := by
    intro a ha
    obtain ⟨j, hj, rfl⟩ := List.mem_iff_getElem.1 ha
    rw [List.length_take] at hj
    rw [List.getElem_take, ← natD (by omega)]
    exact h1 j (by omega)
  have hgt : ∀ a ∈ M.drop k, ltS (hdP t n) (hdP t a) = true := by
    intro a ha
    obtain ⟨j, hj, rfl⟩ := List.mem_iff_getElem.1 ha
    rw [List.length_drop] at hj
    rw [List.getElem_drop]
    have h3 := h2 (by omega)
    by_cases hj0 : j = 0
    · subst hj0
      rw [← natD (by omega)]; exact h3
    · have h4 := List.pairwise_iff_getElem.1 h.2 k (k + j) (by omega) (by omega) (by omega)
      rw [natD (by omega)] at h3
      exact ltS_trans h3 h4
  refine ⟨?_, ?_⟩
  · have e1 : (M.take k ++ [n] ++ M.drop k).Perm (M.take k ++ (M.drop k ++ [n])) := by
      rw [List.append_assoc]
      exact List.Perm.append_left _ List.perm_append_comm
    rw [← List.append_assoc, List.take_append_drop] at e1
    exact e1.trans (List.Perm.append_right _ h.1)
  · rw [List.pairwise_append, List.pairwise_append]
    refine ⟨⟨h.2.sublist (List.take_sublist _ _), List.pairwise_singleton _ _, fun a ha c hc => ?_⟩, h.2.sublist (List.drop_sublist _ _), fun a ha c hc => ?_⟩
    · obtain rfl : c = n := by simpa using hc
      exact hlt a ha
    · rcases List.mem_append.1 ha with ha | ha
      · exact ltS_trans (hlt a ha) (hgt c hc)
      · obtain rfl : a = n := by simpa using ha
        exact hgt c hc

end Go.Proofs.YteomlacohddecaaGreat

/- hardlink.Counts at every tree: the fault of the tree, or how many entries refer to each inode. Conditions: the tree's cells lie in memory as they read. -/

set_option linter.all false
namespace Go.Proofs.YteomlacohddecaaGreat
open Go.RowKit

/-- What holds while hardlink.Counts counts. -/
structure HInv (w wr : World) (t : Tr) (a : Option Addr) (c pt R i k : Nat) : Prop where
  b : Below w.heap.size w wr
  tb : One wr pt (.slice a t.length c)
  row : Row wr R t.length (fun j => .int .i64 (cntE (upto t i k) j : Nat))
theorem HInv.step {w wr z : World} {t : Tr} {a : Option Addr} {c pt R i k : Nat} (h : HInv w wr t a c pt R i k) (hb : Below wr.heap.size wr z) : HInv w z t a c pt R i k :=
  ⟨h.b.trans (hb.mono h.b.size), h.tb.below hb h.tb.lt, h.row.below hb h.row.lt⟩
theorem HInv.cnt {w wr : World} {t : Tr} {a : Option Addr} {c pt R i k : Nat} (h : HInv w wr t a c pt R i k) (hw : w.heap.size ≤ R) (h1 : R ≠ pt) {x : ByteArray} {m : Nat} (hk : k < (kids t i).length) (he : (kids t i).getD k D0 = ⟨x, (m : Int)⟩) (hm : m < t.length) {u : Int} (hu : u = (cntE (upto t i k) m : Nat) + 1) :
    HInv w (wr.setCell ⟨R, m, none⟩ (.int .i64 u)) t a c pt R i (k + 1) := by
  refine ⟨h.b.setCell hw _, h.tb.far (by simpa using h1.symm) _, (h.row.put hm _).ext fun j hj => ?_⟩
  rw [upto_succ hk, cntE_snoc, he]
  simp only
  by_cases e : j = m
  · subst e; rw [if_pos rfl, if_pos rfl, hu]; congr 1
  · rw [if_neg e, if_neg (by omega)]; congr 1

/-- What hardlink.Counts returns: the fault, or a new row of the numbers of names. -/
def CountsPost (t : Tr) (w : World) (e : Ending) (w' : World) : Prop :=
  ((valT t).1 ≠ 0 ∧ e = .returned (.tuple #[.slice none 0 0, faultV (valT t).1 (valT t).2]) ∧ Below w.heap.size w w') ∨
    ((valT t).1 = 0 ∧ ∃ R, w.heap.size ≤ R ∧ e = .returned (.tuple #[.slice (some ⟨R, 0, none⟩) t.length t.length, faultV 0 0]) ∧ Row w' R t.length (fun j => .int .i64 (refs t j : Nat)) ∧ Below w.heap.size w w')

set_option maxRecDepth 100000 in
set_option maxHeartbeats 3200000 in
theorem counts_any (a : Option Addr) (c : Nat) (t : Tr) (w : World) (h : Nods w w.heap.size a c t) :
    Calls Tryz.prog 6 #[.agg #[.slice a t.length c]] w (CountsPost t w) := by
  have C1 := Lib.hid (fun W (hb : Below w.heap.size w W) => validT_any a c t W (h.up hb))
  have T0 := Lib.hid (show One ((w.alloc (.cells #[.slice a t.length c] 24)).alloc (.cells #[.int .i64 0, .int .i64 0] 27)) w.heap.size (.slice a t.length c) from (One.new w _ _).alloc _)
  have F0 := Lib.hid (show FBox ((w.alloc (.cells #[.slice a t.length c] 24)).alloc (.cells #[.int .i64 0, .int .i64 0] 27)) (w.heap.size + 1) 0 0 from (FBox.new (w.alloc _) 0 0 _).at_ (by simp))
  have B0 := Lib.hid (show Below w.heap.size w ((w.alloc (.cells #[.slice a t.length c] 24)).alloc (.cells #[.int .i64 0, .int .i64 0] 27)) from ((Below.refl _ _).alloc (Nat.le_refl _) _).alloc (by first | omega | (simp; done) | (simp; omega)) _)
  unfold CountsPost
  by_cases hq : (valT t).1 = 0
  · obtain ⟨hd, p4⟩ := valT_ok hq
    have hz := valT_zero hq
    have H1 := Lib.hid (Pass.ok1 hd (p4.mono (by omega)))
    have HQ := Lib.hid hq
    have H := Lib.hid h
    have hmk := make_ints t.length H1.out.le
    have h40 := H1.out.le
    rw [hz] at C1
    clear hd p4 hq hz h
    unfold faultV at C1
    go_enter Tryz.func6, Tryz.ntmps6
    go_wp2_with fail
    refine (C1.out _ B0.out).mono ?_
    rintro e W1 ⟨rfl, b1⟩
    have T1 := Lib.hid ((T0.out.below b1 T0.out.lt).alloc (.cells #[.int .i64 0, .int .i64 0] 27))
    have F1 := Lib.hid (F0.out.below b1 F0.out.lt)
    have B1 := Lib.hid (B0.out.trans (b1.mono B0.out.size))
    have tc := (T0.out.below b1 T0.out.lt).c0
    have tl := (T0.out.below b1 T0.out.lt).lt
    clear b1
    have R1 := Lib.hid (show HInv w ((W1.alloc (.cells #[.int .i64 0, .int .i64 0] 27)).alloc (.cells (madeCells #[.int .i64 0] t.length) 3)) t a c w.heap.size (W1.heap.size + 1) 0 0 from
      ⟨(B1.out.alloc B1.out.size _).alloc (by have := B1.out.size; simp; omega) _, T1.out.alloc _, ((row_new (W1.alloc _) t.length (.int .i64 0) _).at_ (by simp)).ext (fun j _ => by rw [upto_zero]; rfl)⟩)
    have FR := Lib.hid ((F1.out.alloc (.cells #[.int .i64 0, .int .i64 0] 27)).alloc (.cells (madeCells #[.int .i64 0] t.length) 3))
    have hRw : w.heap.size + 1 < W1.heap.size + 1 := by have := F1.out.lt; omega
    have tc2 := T1.out.c0
    have tl2 := T1.out.lt
    go_wp2_with fail
    generalize hR : W1.heap.size + 1 = R at *
    generalize hW2 : (W1.alloc (.cells #[.int .i64 0, .int .i64 0] 27)).alloc (.cells (madeCells #[.int .i64 0] t.length) 3) = W2 at *
    clear T1 F1 B1 tc tl tc2 tl2 C1 T0 F0 B0 hW2
    go_loopg [7, 9, 23] t.length (fun gg _ _ s23 wr => ∃ i : Nat, i ≤ t.length ∧ t.length - i ≤ gg ∧ s23 = .int .i64 i ∧ Aside (HInv w wr t a c w.heap.size R i 0) ∧ Aside (FBox wr (w.heap.size + 1) 0 0))
    case atStart => exact ⟨0, by omega, by omega, rfl, R1.out, FR.out⟩
    case round =>
      obtain ⟨i, hi, hg, rfl, I, FI⟩ := hrel
      clear R1 FR
      obtain ⟨w2, rfl⟩ : ∃ w2 : World, w2 = wr := ⟨_, rfl⟩
      by_cases hlt : i < t.length
      · have hltz : (i : Int) < (t.length : Int) := by omega
        have hm9 : t.length - (i + 1) < t.length - i := Nat.sub_lt_sub_left hlt (Nat.lt_succ_self i)
        obtain ⟨b, o, ve, vd, va, vx, rfl, hb, hc, hs⟩ := (H.out.below I.out.b).one hlt
        obtain ⟨ea, ec, rfl, hec, hel, hef, hex⟩ := hs.es
        obtain ⟨da, dc, rfl, _⟩ := hs.dl
        obtain ⟨aa, acp, rfl, _⟩ := hs.ac
        obtain ⟨xa, xc, rfl, _⟩ := hs.xs
        have h0 := hc.c0
        have h1 := hc.c1
        have h2 := hc.c2
        have h3 := hc.c3
        have h4 := hc.c4
        have h5 := hc.c5
        have h6 := hc.c6
        have h7 := hc.c7
        change (kids t i).length ≤ ec at hec
        change (kids t i).length ≤ 35184372088832 at hel
        change w2.cell? ⟨b, o + i * 8 + 2, none⟩ = some (.slice ea (kids t i).length ec) at h2
        have HEX := Lib.hid (show 0 < (kids t i).length → ∃ b o, ea = some ⟨b, o, none⟩ ∧ b < w.heap.size ∧ ∀ j, j < (kids t i).length →
          w2.cell? ⟨b, o + j * 2, none⟩ = some (.string ((kids t i).getD j D0).n) ∧ w2.cell? ⟨b, o + j * 2 + 1, none⟩ = some (.int .i64 ((kids t i).getD j D0).i) from hex)
        have HKD := Lib.hid (fun k (hk : k < (kids t i).length) => H1.out.kid (show (kids t i).getD k D0 ∈ kids t i from by rw [deD hk]; exact List.getElem_mem hk))
        have HCL := Lib.hid (fun k q => cnt_le H1.out i k q hi)
        have HUN := Lib.hid (upto_next hlt)
        clear hc hs hef hex
        have hbs := I.out.b.size
        generalize hm : (kids t i).length = m at *
        generalize (nod t i).k = gk at *
        generalize (nod t i).o = go at *
        generalize (nod t i).dl = gd at *
        generalize (nod t i).ac.length = ga at *
        generalize (nod t i).xs.length = gx at *
        generalize (nod t i).q = gq at *
        generalize (nod t i).v = gv at *
        have I1 := Lib.hid (I.out.step ((Below.refl w2.heap.size w2).alloc (Nat.le_refl _) (.cells #[.int .i64 gk, .int .i64 go, .slice ea m ec, .slice da gd dc, .slice aa ga acp, .slice xa gx xc, .int .i64 gq, .int .i64 gv] 51)))
        have F1 := Lib.hid (FI.out.alloc (.cells #[.int .i64 gk, .int .i64 go, .slice ea m ec, .slice da gd dc, .slice aa ga acp, .slice xa gx xc, .int .i64 gq, .int .i64 gv] 51))
        have W1 := Lib.hid ((Below.refl w2.heap.size w2).alloc (Nat.le_refl _) (.cells #[.int .i64 gk, .int .i64 go, .slice ea m ec, .slice da gd dc, .slice aa ga acp, .slice xa gx xc, .int .i64 gq, .int .i64 gv] 51))
        go_wp2_with fail
        go_loopg [9, 30] m (fun gg _ s30 wq => ∃ k : Nat, k ≤ m ∧ m - k ≤ gg ∧ s30 = .int .i64 k ∧ Aside (Below w.heap.size w2 wq) ∧ Aside (HInv w wq t (some ⟨b, o, none⟩) c w.heap.size R i k) ∧ Aside (FBox wq (w.heap.size + 1) 0 0))
        case atStart => exact ⟨0, by omega, by omega, rfl, W1.out.mono hbs, I1.out, F1.out⟩
        case round =>
          obtain ⟨k, hk, hg2, rfl, WQ, IQ, FQ⟩ := hrel
          clear I1 W1 F1
          by_cases hlk : k < m
          · have hlkz : (k : Int) < (m : Int) := by omega
            obtain ⟨be, oe, rfl, hbe, hje⟩ := HEX.out (by omega)
            have g0 := (WQ.out.cell (p := ⟨be, oe + k * 2, none⟩) hbe).trans (hje k hlk).1
            have g1 := (WQ.out.cell (p := ⟨be, oe + k * 2 + 1, none⟩) hbe).trans (hje k hlk).2
            have hkd := HKD.out k hlk
            have q2 := hkd.2.1
            have q3 := hkd.2.2.1
            clear hkd
            have hcb := fun q => HCL.out k q
            clear hje
            generalize hy : (kids t i).getD k D0 = e at *
            obtain ⟨x, ei⟩ := e
            simp only at g0 g1 q2 q3
            obtain ⟨n2, rfl⟩ := Int.eq_ofNat_of_zero_le (Int.le_of_lt q2)
            simp only [Int.toNat_natCast] at q3
            have Y := Lib.hid hy
            clear hy q2
            have IX := Lib.hid (IQ.out.step ((Below.refl wr.heap.size wr).alloc (Nat.le_refl _) (.cells #[.string x, .int .i64 (n2 : Int)] 59)))
            have hcq := hcb n2
            have rc := IX.out.row.c n2 q3
            have rz := IX.out.row.fz n2
            have rl := IX.out.row.lt
            clear hcb
            generalize hq : cntE (upto t i k) n2 = q at *
            have HQ2 := Lib.hid hq
            clear hq
            have n2z : (n2 : Int) < (t.length : Int) := by omega
            have n20 : (0 : Int) ≤ (n2 : Int) := Int.natCast_nonneg _
            go_wp2
            go_roundg (m - (k + 1))
            case measure => omega
            case rel =>
              refine ⟨k + 1, by omega, by omega, by go_num, ?_, IX.out.cnt (by omega) (by omega) (by omega) Y.out q3 (by rw [HQ2.out]), ?_⟩
              · exact (show Below w.heap.size w2 _ from ((WQ.out.alloc (Nat.le_trans hbs WQ.out.size) _).setCell (by first | omega | (simp; done) | (simp; omega)) _))
              · exact (FQ.out.alloc _).far (by simp; omega) _
          · obtain rfl : k = m := by omega
            have IE := Lib.hid (show HInv w wr t (some ⟨b, o, none⟩) c w.heap.size R (i + 1) 0 from ⟨IQ.out.b, IQ.out.tb, by rw [← HUN.out]; exact IQ.out.row⟩)
            go_wp2
            go_roundg (t.length - (i + 1))
            case measure => exact Nat.lt_of_lt_of_le hm9 hg
            case rel => exact ⟨i + 1, by omega, by omega, by go_num, IE.out, FQ.out⟩
      · obtain rfl : i = t.length := by omega
        obtain ⟨l9, a0, a1, f0, f1⟩ := FI.out
        go_wp2
        exact bodyPost_ret (v := .tuple #[.slice (some ⟨R, 0, none⟩) t.length t.length, faultV 0 0]) (by simp [results, Tryz.results6, faultV, go_sem, a0, a1, l9]) rfl (.inr ⟨HQ.out, R, by omega, rfl, ((I.out.row.far (by simp; omega) _).far (by simp; omega) _).ext (fun j _ => by rw [upto_all]), (I.out.b.setCell (by simp) _).setCell (by simp) _⟩)
  · have hq1 : ((valT t).1 != 0) = true := by simpa using hq
    have hq2 : ((valT t).1 == 0) = false := by simpa using hq
    have HQ := Lib.hid hq
    clear h hq
    unfold faultV at C1
    generalize (valT t).1 = q at *
    generalize (valT t).2 = r at *
    go_enter Tryz.func6, Tryz.ntmps6
    go_wp2_with fail
    refine (C1.out _ B0.out).mono ?_
    rintro e W1 ⟨rfl, b1⟩
    have F1 := Lib.hid (F0.out.below b1 F0.out.lt)
    have B1 := Lib.hid (B0.out.trans (b1.mono B0.out.size))
    obtain ⟨l9, a0, a1, f0, f1⟩ := F1.out
    have hs1 := B1.out.size
    clear b1
    go_wp2
    go_region
    go_wp2
    exact bodyPost_ret (v := .tuple #[.slice none 0 0, faultV q r]) (by simp [results, Tryz.results6, faultV, go_sem, a0, a1, l9]) rfl (.inl ⟨HQ.out, rfl, by repeat (first | exact B1.out | refine Below.setCell ?_ (by first | omega | (simp; done) | (simp; omega)) _ | refine Below.alloc ?_ (by first | omega | (simp; done) | (simp; omega)) _ | refine Below.drew ?_)⟩)

end Go.Proofs.YteomlacohddecaaGreat

/- PathsOf at every tree: the fault, or the paths in ascending order. Conditions: the tree's cells lie in memory as they read. -/

set_option linter.all false
namespace Go.Proofs.YteomlacohddecaaGreat
open Go.RowKit

theorem wantsOne (w : World) (p : Nat) (n : Int) (h : One w p (.int .i64 n)) : Wants 25 #[.pointer (some ⟨p, 0, none⟩)] (fun m => (m : Int) == n) w := by
  refine ⟨enters_of Tryz.func25 (by kernel_rfl) rfl, fun W m hb => ?_⟩
  have h2 := (h.below hb h.lt).c0
  show Calls Tryz.prog 25 #[.int .i64 ((m : Nat) : Int), .pointer (some ⟨p, 0, none⟩)] W _
  go_enter Tryz.func25, Tryz.ntmps25
  go_wp2
  go_ret
  exact ⟨rfl, rfl⟩

/-- The fault of PathsOf. -/
def pofF (t : Tr) (n : Int) : Int × Int := if (valT t).1 ≠ 0 then valT t else if used t n = true then (0, 0) else (3, -1)
set_option maxRecDepth 100000 in
set_option maxHeartbeats 1600000 in
theorem pathsOf_own (a : Option Addr) (c : Nat) (t : Tr) (n : Int) (w : World) (h : Nods w w.heap.size a c t) :
    Calls Tryz.prog 11 #[.agg #[.slice a t.length c], .int .i64 n] w (PathsOwn t (pofF t n) (fun m => (m : Int) == n) w) := by
  have C1 := Lib.hid (fun W (hb : Below w.heap.size w W) => validT_any a c t W (h.up hb))
  have T0 := Lib.hid (show One (((w.alloc (.cells #[.slice a t.length c] 24)).alloc (.cells #[.int .i64 n] 3)).alloc (.cells #[.int .i64 0, .int .i64 0] 27)) w.heap.size (.slice a t.length c) from ((One.new w _ _).alloc _).alloc _)
  have F0 := Lib.hid (show FBox (((w.alloc (.cells #[.slice a t.length c] 24)).alloc (.cells #[.int .i64 n] 3)).alloc (.cells #[.int .i64 0, .int .i64 0] 27)) (w.heap.size + 1 + 1) 0 0 from (FBox.new ((w.alloc _).alloc _) 0 0 _).at_ (by simp))
  have N0 := Lib.hid (show One (((w.alloc (.cells #[.slice a t.length c] 24)).alloc (.cells #[.int .i64 n] 3)).alloc (.cells #[.int .i64 0, .int .i64 0] 27)) (w.heap.size + 1) (.int .i64 n) from ((One.new (w.alloc _) _ _).alloc _).at_ (by simp))
  have B0 := Lib.hid (show Below w.heap.size w (((w.alloc (.cells #[.slice a t.length c] 24)).alloc (.cells #[.int .i64 n] 3)).alloc (.cells #[.int .i64 0, .int .i64 0] 27)) from (((Below.refl _ _).alloc (Nat.le_refl _) _).alloc (by first | omega | (simp; done) | (simp; omega)) _).alloc (by first | omega | (simp; done) | (simp; omega)) _)
  by_cases hq : (valT t).1 = 0
  · obtain ⟨hd, p4⟩ := valT_ok hq
    have hz := valT_zero hq
    have C3 := Lib.hid (fun W (hb : Below w.heap.size w W) => isUsed_any a c t n W (h.up hb))
    have hpf : pofF t n = if used t n = true then (0, 0) else (3, -1) := by unfold pofF; rw [if_neg (by simpa using hq)]
    rw [hz] at C1
    rw [hpf]
    unfold faultV at C1
    cases hu : used t n with
    | true =>
      rw [hu] at C3
      rw [if_pos rfl]
      have C2 := Lib.hid (fun W (hb : Below w.heap.size w W) (p : Nat) (hn : One W p (.int .i64 n)) => pathsWhere_own a c t W hd p4 (h.up hb) _ _ _ (wantsOne W p n hn))
      unfold OwnPost at C2
      clear hd p4 hq hz h hpf hu
      go_enter Tryz.func11, Tryz.ntmps11
      go_wp2_with fail
      refine (C1.out _ B0.out).mono ?_
      rintro e W1 ⟨rfl, b1⟩
      have T1 := Lib.hid ((T0.out.below b1 T0.out.lt).alloc (.cells #[.int .i64 0, .int .i64 0] 27))
      have N1 := Lib.hid ((N0.out.below b1 N0.out.lt).alloc (.cells #[.int .i64 0, .int .i64 0] 27))
      have F1 := Lib.hid ((F0.out.below b1 F0.out.lt).alloc (.cells #[.int .i64 0, .int .i64 0] 27))
      have B1 := Lib.hid ((B0.out.trans (b1.mono B0.out.size)).alloc (Nat.le_trans B0.out.size b1.size) (.cells #[.int .i64 0, .int .i64 0] 27))
      have tc := (T0.out.below b1 T0.out.lt).c0
      have tl := (T0.out.below b1 T0.out.lt).lt
      have nc := (N0.out.below b1 N0.out.lt).c0
      have nl := (N0.out.below b1 N0.out.lt).lt
      clear b1
      go_wp2_with fail
      refine (C3.out _ B1.out).mono ?_
      rintro e W2 ⟨rfl, b2⟩
      have T2 := Lib.hid (T1.out.below b2 T1.out.lt)
      have N2 := Lib.hid (N1.out.below b2 N1.out.lt)
      have F2 := Lib.hid (F1.out.below b2 F1.out.lt)
      have B2 := Lib.hid (B1.out.trans (b2.mono B1.out.size))
      have tc2 := T2.out.c0
      have tl2 := T2.out.lt
      clear b2 tc tl nc nl
      go_wp2_with fail
      refine (C2.out _ B2.out _ N2.out).mono ?_
      rintro e W3 ⟨v, P, rfl, ha, hs, hlow, b3, hown⟩
      have F3 := Lib.hid (F2.out.below b3 F2.out.lt)
      have hfl := F2.out.lt
      have B3 := Lib.hid (B2.out.trans (b3.mono B2.out.size))
      obtain ⟨l9, a0, a1, f0, f1⟩ := F3.out
      have HA := Lib.hid ha
      have HS := Lib.hid (show Strs ((W3.setCell ⟨w.heap.size + 1 + 1, 0, none⟩ (.int .i64 0)).setCell ⟨w.heap.size + 1 + 1, 1, none⟩ (.int .i64 0)) W3.heap.size v P from
        (hs.setLow hlow (p := ⟨w.heap.size + 1 + 1, 0, none⟩) (by simp; omega) _).setLow hlow (p := ⟨w.heap.size + 1 + 1, 1, none⟩) (by simp; omega) _)
      have HO := Lib.hid (ownsRow_setCell_below (ownsRow_setCell_below hown (a := ⟨w.heap.size + 1 + 1, 0, none⟩) (by simp; omega) (.int .i64 0)) (a := ⟨w.heap.size + 1 + 1, 1, none⟩) (by simp; omega) (.int .i64 0))
      have hbl := B2.out.size
      clear ha hs hlow b3 tc2 tl2 hown
      go_wp2
      exact bodyPost_ret (v := .tuple #[v, faultV 0 0]) (by simp [results, Tryz.results11, faultV, go_sem, a0, a1]) rfl (.inr ⟨rfl, v, P, rfl, HA.out, by simpa using HS.out, (B3.out.setCell (by first | omega | (simp; done) | (simp; omega)) _).setCell (by first | omega | (simp; done) | (simp; omega)) _, own_le HO.out hbl⟩)
    | false =>
      rw [hu] at C3
      rw [if_neg (by simp)]
      clear hd p4 hq hz h hpf hu
      go_enter Tryz.func11, Tryz.ntmps11
      go_wp2_with fail
      refine (C1.out _ B0.out).mono ?_
      rintro e W1 ⟨rfl, b1⟩
      have F1 := Lib.hid ((F0.out.below b1 F0.out.lt).alloc (.cells #[.int .i64 0, .int .i64 0] 27))
      have B1 := Lib.hid ((B0.out.trans (b1.mono B0.out.size)).alloc (Nat.le_trans B0.out.size b1.size) (.cells #[.int .i64 0, .int .i64 0] 27))
      have tc := (T0.out.below b1 T0.out.lt).c0
      have tl := (T0.out.below b1 T0.out.lt).lt
      have nc := (N0.out.below b1 N0.out.lt).c0
      have nl := (N0.out.below b1 N0.out.lt).lt
      clear b1
      go_wp2_with fail
      refine (C3.out _ B1.out).mono ?_
      rintro e W2 ⟨rfl, b2⟩
      have F2 := Lib.hid (F1.out.below b2 F1.out.lt)
      have B2 := Lib.hid (B1.out.trans (b2.mono B1.out.size))
      obtain ⟨l9, a0, a1, f0, f1⟩ := F2.out
      clear b2 tc tl nc nl
      go_wp2
      exact bodyPost_ret (v := .tuple #[.slice none 0 0, faultV 3 (-1)]) (by simp [results, Tryz.results11, faultV, go_sem, a0, a1]) rfl (.inl ⟨by decide, rfl, (B2.out.setCell (by first | omega | (simp; done) | (simp; omega)) _).setCell (by first | omega | (simp; done) | (simp; omega)) _⟩)
  · have hq1 : ((valT t).1 != 0) = true := by simpa using hq
    have hq2 : ((valT t).1 == 0) = false := by simpa using hq
    have HQ := Lib.hid hq
    rw [show pofF t n = valT t from by unfold pofF; rw [if_pos hq]]
    clear h hq
    unfold faultV at C1
    have HR := Lib.hid (show valT t = ((valT t).1, (valT t).2) from rfl)
    rw [HR.out]
    clear HR
    generalize (valT t).1 = q at *
    generalize (valT t).2 = r at *
    go_enter Tryz.func11, Tryz.ntmps11
    go_wp2_with fail
    refine (C1.out _ B0.out).mono ?_
    rintro e W1 ⟨rfl, b1⟩
    have F1 := Lib.hid (F0.out.below b1 F0.out.lt)
    have B1 := Lib.hid (B0.out.trans (b1.mono B0.out.size))
    obtain ⟨l9, a0, a1, f0, f1⟩ := F1.out
    have hs1 := B1.out.size
    clear b1
    go_wp2
    go_region
    go_wp2
    exact bodyPost_ret (v := .tuple #[.slice none 0 0, faultV q r]) (by simp [results, Tryz.results11, faultV, go_sem, a0, a1, l9]) rfl (.inl ⟨HQ.out, rfl, by repeat (first | exact B1.out | refine Below.setCell ?_ (by first | omega | (simp; done) | (simp; omega)) _ | refine Below.alloc ?_ (by first | omega | (simp; done) | (simp; omega)) _ | refine Below.drew ?_)⟩)

theorem pathsOf_any (a : Option Addr) (c : Nat) (t : Tr) (n : Int) (w : World) (h : Nods w w.heap.size a c t) :
    Calls Tryz.prog 11 #[.agg #[.slice a t.length c], .int .i64 n] w (PathsPost t (pofF t n) (fun m => (m : Int) == n) w) :=
  (pathsOf_own a c t n w h).mono fun _ _ h => h.plain

end Go.Proofs.YteomlacohddecaaGreat

/- hardlink.Groups at every tree. Conditions: the tree's cells lie in memory as they read. -/

set_option linter.all false
namespace Go.Proofs.YteomlacohddecaaGreat
open Go.RowKit

theorem own_apartH {w : World} {base base' n m s s' : Nat} {e e' : TypeId} {v u : Value} {xs ys : List Value} (h : w.ownsRow base e s v n xs) (h' : w.ownsRow base' e' s' u m ys) (he : e ≠ e') {g : Nat} (hv : v.ownBlock = some g) : u.ownBlock ≠ some g := by
  intro hu
  rcases h.2 with ⟨rfl, _⟩ | ⟨g1, c1, cur1, rfl, _, hg1, _⟩
  · cases hv
  · rcases h'.2 with ⟨rfl, _⟩ | ⟨g2, c2, cur2, rfl, _, hg2, _⟩
    · cases hu
    · have e1 : g1 = g := by simpa [Value.ownBlock] using hv
      have e2 : g2 = g := by simpa [Value.ownBlock] using hu
      rw [e1] at hg1
      rw [e2, hg1] at hg2
      injection hg2 with hg2
      injection hg2 with _ h3
      exact he h3
theorem own_keptH {w w' : World} {base n size : Nat} {e : TypeId} {v : Value} {xs : List Value} {row : Option Nat} (h : w.ownsRow base e size v n xs) (hg : w.grownBy w' row) (hne : ∀ g, row = some g → v.ownBlock ≠ some g) : w'.ownsRow base e size v n xs :=
  h.kept hg (by
    cases hv : v.ownBlock with
    | none => exact .inl rfl
    | some g => exact .inr (fun e => hne g e.symm hv))

/-- The closure that compares two groups by their first paths. -/
theorem eg_grp1 : ∀ args w, (callFunc 13 args).run Tryz.prog w = .ok (.enter 13 args) w := enters_of Tryz.func13 (by kernel_rfl) rfl
set_option maxRecDepth 100000 in
set_option maxHeartbeats 800000 in
theorem grpCmp_any (u v : Value) (P Q : List ByteArray) (w : World) (B : Nat) (hu : Strs w B u P) (hv : Strs w B v Q) (hp : 0 < P.length) (hq : 0 < Q.length) :
    Calls Tryz.prog 13 #[u, v] w fun e w' => e = .returned (.int .i64 (cmpS (P.getD 0 ByteArray.empty) (Q.getD 0 ByteArray.empty))) ∧ ∃ q, w' = w.drewN q := by
  obtain ⟨a1, c1, rfl, _, _, _, hx1⟩ := hu
  obtain ⟨a2, c2, rfl, _, _, _, hx2⟩ := hv
  obtain ⟨b1, o1, rfl, _, hj1⟩ := hx1 hp
  obtain ⟨b2, o2, rfl, _, hj2⟩ := hx2 hq
  have g1 := hj1 0 hp
  have g2 := hj2 0 hq
  rw [Nat.add_zero] at g1 g2
  have hpz : (0 : Int) < (P.length : Int) := by omega
  have hqz : (0 : Int) < (Q.length : Int) := by omega
  clear hj1 hj2 hx1 hx2
  generalize P.getD 0 ByteArray.empty = x at *
  generalize Q.getD 0 ByteArray.empty = y at *
  go_enter Tryz.func13, Tryz.ntmps13
  go_wp2_with fail
  go_quiet ((go_at_call 14; refine (compareS_any _ _ _).mono ?_; rintro e _ ⟨rfl, rfl⟩; exact ⟨rfl, _, rfl⟩))
  go_wp2
  go_ret
  exact ⟨rfl, _, rfl⟩

/-- The groups' row and its slices. -/
structure GRow (w : World) (base : Nat) (t : Tr) (v : Value) (us : List Value) (G : List Nat) : Prop where
  own : w.ownsRow base 39 1 v us.length us
  ln : us.length = G.length
  st : ∀ j, j < us.length → w.ownsRow base 9 1 (us.getD j U0) (pths t (G.getD j 0)).length ((pths t (G.getD j 0)).map Value.string)
theorem str_ne_rows : 9 ≠ 39 := by decide
theorem GRow.below {w w' : World} {base : Nat} {t : Tr} {v : Value} {us : List Value} {G : List Nat} (h : GRow w base t v us G) (hb : Below w.heap.size w w') : GRow w' base t v us G :=
  ⟨own_below h.own hb, h.ln, fun j hj => own_below (h.st j hj) hb⟩
theorem GRow.app {w w' : World} {base : Nat} {t : Tr} {v v' : Value} {us : List Value} {G : List Nat} (h : GRow w base t v us G) {u : Value} {n : Nat} (hu : w.ownsRow base 9 1 u (pths t n).length ((pths t n).map Value.string)) (ho : w'.ownsRow base 39 1 v' (us.length + 1) (us ++ [u])) (hg : w.grownBy w' v.ownBlock) : GRow w' base t v' (us ++ [u]) (G ++ [n]) := by
  have hl := h.ln
  refine ⟨by rw [List.length_append, List.length_singleton]; exact ho, by rw [List.length_append, List.length_append, hl]; rfl, fun j hj => ?_⟩
  rw [List.length_append, List.length_singleton] at hj
  by_cases e : j < us.length
  · have e1 : (us ++ [u]).getD j U0 = us.getD j U0 := by rw [List.getD_eq_getElem?_getD, List.getD_eq_getElem?_getD, List.getElem?_append_left e]
    have e2 : (G ++ [n]).getD j 0 = G.getD j 0 := by rw [List.getD_eq_getElem?_getD, List.getD_eq_getElem?_getD, List.getElem?_append_left (by omega)]
    rw [e1, e2]
    exact own_keptH (h.st j e) hg (fun g hg2 => own_apartH h.own (h.st j e) str_ne_rows.symm hg2)
  · obtain rfl : j = us.length := by omega
    have e1 : (us ++ [u]).getD us.length U0 = u := by rw [List.getD_eq_getElem?_getD, List.getElem?_append_right (Nat.le_refl _)]; simp
    have e2 : (G ++ [n]).getD us.length 0 = n := by rw [List.getD_eq_getElem?_getD, List.getElem?_append_right (by omega), hl]; simp
    rw [e1, e2]
    exact own_keptH hu hg (fun g hg2 => own_apartH h.own hu str_ne_rows.symm hg2)
theorem own_cell {w : World} {base n : Nat} {e : TypeId} {v : Value} {xs : List Value} (h : w.ownsRow base e 1 v n xs) : ∃ a c, v = .slice a n c := by
  rcases h.2 with ⟨rfl, rfl⟩ | ⟨g, cap, cur, rfl, _⟩
  · exact ⟨none, 0, rfl⟩
  · exact ⟨_, cap, rfl⟩
theorem GRow.one {w : World} {base : Nat} {t : Tr} {v : Value} {us : List Value} {G : List Nat} (h : GRow w base t v us G) : ∀ u ∈ us, u.oneCell' = true := by
  intro u hu
  obtain ⟨j, hj, rfl⟩ := List.mem_iff_getElem.1 hu
  obtain ⟨a, c, e⟩ := own_cell (h.st j hj)
  rw [valD hj] at e
  rw [e]; rfl

/-- A slice of groups, as it is read; its blocks are none below lo. -/
def GR (t : Tr) (w : World) (lo B : Nat) (v : Value) (M : List Nat) : Prop :=
  ∃ us, Vals w B v us ∧ us.length = M.length ∧ (∀ q, v.ownBlock = some q → lo ≤ q) ∧ ∀ j, j < us.length → Strs w B (us.getD j U0) (pths t (M.getD j 0)) ∧ ∀ q, (us.getD j U0).ownBlock = some q → lo ≤ q
theorem GR.below {t : Tr} {w w' : World} {lo B : Nat} {v : Value} {M : List Nat} (h : GR t w lo B v M) (hb : Below B w w') : GR t w' lo B v M := by
  obtain ⟨us, h1, h2, h4, h3⟩ := h
  exact ⟨us, h1.below hb, h2, h4, fun j hj => ⟨(h3 j hj).1.below hb, (h3 j hj).2⟩⟩
theorem GR.more {t : Tr} {w : World} {lo B B' : Nat} {v : Value} {M : List Nat} (h : GR t w lo B v M) (hB : B ≤ B') : GR t w lo B' v M := by
  obtain ⟨us, h1, h2, h4, h3⟩ := h
  exact ⟨us, h1.more hB, h2, h4, fun j hj => ⟨(h3 j hj).1.more hB, (h3 j hj).2⟩⟩
theorem GR.up {t : Tr} {w w' : World} {lo : Nat} {v : Value} {M : List Nat} (h : GR t w lo w.heap.size v M) (hb : Below w.heap.size w w') : GR t w' lo w'.heap.size v M := (h.below hb).more hb.size
theorem Vals.setLow {W : World} {B : Nat} {v : Value} {us : List Value} (h : Vals W B v us) {H0 : Nat} (hv : ∀ q, v.ownBlock = some q → H0 ≤ q) {p : Addr} (hp : p.block < H0) (u : Value) : Vals (W.setCell p u) B v us := by
  obtain ⟨a, c, rfl, hc, hl, hs, hx⟩ := h
  refine ⟨a, c, rfl, hc, hl, hs, fun h0 => ?_⟩
  obtain ⟨b, o, rfl, hB, hj⟩ := hx h0
  have := hv b rfl
  exact ⟨b, o, rfl, hB, fun j hjl => (World.cell?_setCell_other W p _ u (fun e => by rw [e] at hp; simp at hp; omega)).trans (hj j hjl)⟩
theorem GR.setLow {t : Tr} {w : World} {lo B : Nat} {v : Value} {M : List Nat} (h : GR t w lo B v M) {p : Addr} (hp : p.block < lo) (u : Value) : GR t (w.setCell p u) lo B v M := by
  obtain ⟨us, h1, h2, h4, h3⟩ := h
  exact ⟨us, h1.setLow h4 hp u, h2, h4, fun j hj => ⟨(h3 j hj).1.setLow (h3 j hj).2 hp u, (h3 j hj).2⟩⟩

theorem heap_sortWorld {α : Type} [Inhabited α] (enc : α → Value) (W : World) (blk off n : Nat) (dk : Array α) (os : Array Obj) {k : Nat} (h1 : k ≠ blk) (h2 : k < W.heap.size) : (sortWorld enc W blk off n dk os).heap[k]? = W.heap[k]? := by
  unfold sortWorld
  rw [Go.Sort.heap_grow_old _ _ (by rw [Go.Sort.size_putRow]; exact h2)]
  unfold Go.Sort.putRow Go.Sort.mapBlock
  simp only [Array.getElem?_modify]
  rw [if_neg (fun e => h1 e.symm)]
  rfl
theorem below_sortWorld {α : Type} [Inhabited α] (enc : α → Value) {B : Nat} {w W : World} (h : Below B w W) (blk off n : Nat) (dk : Array α) (os : Array Obj) (hb : B ≤ blk) (hB : B ≤ w.heap.size) : Below B w (sortWorld enc W blk off n dk os) := by
  have hs := h.size
  refine h.trans ⟨rfl, rfl, rfl, ?_, fun k hk => heap_sortWorld enc W blk off n dk os (by omega) (by omega)⟩
  unfold sortWorld
  rw [Go.Sort.size_grow, Go.Sort.size_putRow]
  show W.heap.size ≤ W.heap.size + _
  omega

theorem strs_sorted {α : Type} [Inhabited α] (enc : α → Value) {W : World} {blk off n : Nat} {dk : Array α} {os : Array Obj} {u : Value} {P : List ByteArray} (h : Strs W W.heap.size u P) (hb : u.ownBlock ≠ some blk) : Strs (sortWorld enc W blk off n dk os) W.heap.size u P := by
  obtain ⟨a, c, rfl, hc, hl, hs, hx⟩ := h
  refine ⟨a, c, rfl, hc, hl, hs, fun h0 => ?_⟩
  obtain ⟨b, o, rfl, hB, hj⟩ := hx h0
  have hne : b ≠ blk := fun e => hb (by simp [Value.ownBlock, e])
  exact ⟨b, o, rfl, hB, fun j hjl => (World.cell?_of_block (a := ⟨b, o + j, none⟩) (heap_sortWorld enc W blk off n dk os hne hB)).trans (hj j hjl)⟩
theorem swo_ltS {α : Type} (f : α → ByteArray) : Go.Sort.SWO (ltOf fun x y => cmpS (f x) (f y)) := by
  have e : ∀ x y, ltOf (fun x y => cmpS (f x) (f y)) x y = ltS (f x) (f y) := fun x y => by
    unfold ltOf
    cases h : ltS (f x) (f y) with
    | true => exact decide_eq_true (cmpS_lt.2 h)
    | false => exact decide_eq_false (fun h2 => by rw [cmpS_lt.1 h2] at h; cases h)
  refine ⟨fun x => ?_, fun x y z h1 h2 => ?_, fun x y z h1 h2 => ?_⟩
  · rw [e]; exact ltS_irrefl _
  · rw [e] at *; exact ltS_trans h1 h2
  · rw [e] at *
    cases h3 : ltS (f x) (f z) with
    | false => rfl
    | true =>
      have h4 : ltS (f y) (f z) = true := ltS_trans' h1 h3
      rw [h4] at h2; cases h2

set_option maxHeartbeats 1600000 in
theorem sortGrp_any (t : Tr) (o2 : Ok2 t) (W : World) (base : Nat) (v : Value) (us : List Value) (G : List Nat) (h : GRow W base t v us G) (hG : G.Nodup) (hne : ∀ n ∈ G, 0 < (pths t n).length) (hlen : G.length ≤ 40) (hbase : base ≤ W.heap.size) :
    Calls Tryz.prog 12 #[v, .func (.func 13) #[] #[]] W fun e w' => e = .returned (.tuple #[]) ∧ Below base W w' ∧ ∃ M, SrtG t M G ∧ GR t w' base w'.heap.size v M := by
  have hln := h.ln
  by_cases h0 : us.length = 0
  · obtain ⟨a, c, rfl⟩ := own_cell h.own
    have hus : us = [] := List.eq_nil_of_length_eq_zero h0
    have hGe : G = [] := List.eq_nil_of_length_eq_zero (by omega)
    subst hus hGe
    refine (Tryz.slices_SortFunc_none (α := Nat) a c _ W).mono ?_
    rintro e w' ⟨rfl, rfl⟩
    exact ⟨rfl, Below.refl _ _, [], ⟨List.Perm.refl _, List.Pairwise.nil⟩, [], Vals.empty _ _ _ _, rfl, fun q hq => (h.own.lt q hq).1, fun j hj => absurd hj (Nat.not_lt_zero _)⟩
  · rcases h.own.2 with ⟨_, h9⟩ | ⟨g, cap, cur, hv, hbg, hg, hnc, _, _, _⟩
    · exact absurd h9 h0
    have hg2 : g < W.heap.size := (Array.getElem?_eq_some_iff.1 hg).1
    subst hv
    have hblk : ∀ j, j < us.length → (us.getD j U0).ownBlock ≠ some g := fun j hj => own_apartH h.own (h.st j hj) str_ne_rows.symm rfl
    have hstr : ∀ j, j < us.length → Strs W W.heap.size (us.getD j U0) (pths t (G.getD j 0)) := fun j hj =>
      strs_row (h.st j hj) (fun x hx => pathsW_fits o2.toOk1 o2.from0 (want := fun m => (m : Int) == ((G.getD j 0 : Nat) : Int)) (List.Perm.refl _) x (((pths_asc o2 _).2 x).1 hx)) (by have := pths_len o2 (G.getD j 0); omega)
    have hpos : ∀ j, j < us.length → 0 < (pths t (G.getD j 0)).length := fun j hj => hne _ (by rw [natD (by omega)]; exact List.getElem_mem (by omega))
    letI : Inhabited (_root_.Fin us.length) := ⟨⟨0, by omega⟩⟩
    let enc : _root_.Fin us.length → Value := fun j => us.getD j.1 U0
    let hd : _root_.Fin us.length → ByteArray := fun j => hdP t (G.getD j.1 0)
    let d : Array (_root_.Fin us.length) := (List.finRange us.length).toArray
    have hds : d.size = us.length := by simp [d]
    have hdj : ∀ j (hj : j < us.length), d[j]! = ⟨j, hj⟩ := fun j hj => by
      rw [getElem!_pos d j (by omega)]
      simp [d]
    have hinj : ∀ i j : _root_.Fin us.length, hd i = hd j → i = j := fun i j e => by
      have e2 := hdP_inj o2 (hpos i.1 i.2) (hpos j.1 j.2) e
      rw [natD (by omega), natD (by omega)] at e2
      exact _root_.Fin.ext ((List.getElem_inj hG).1 e2)
    have hO := swo_ltS hd
    have hlt : ∀ x y, ltOf (fun x y => cmpS (hd x) (hd y)) x y = ltS (hd x) (hd y) := fun x y => by
      unfold ltOf
      cases h : ltS (hd x) (hd y) with
      | true => exact decide_eq_true (cmpS_lt.2 h)
      | false => exact decide_eq_false (fun h2 => by rw [cmpS_lt.1 h2] at h; cases h)
    have hcmp : CmpLays1 Tryz.prog 13 #[] enc (fun x y => cmpS (hd x) (hd y)) g 0 d.size W := fun m os dk hs x y =>
      (grpCmp_any (enc x) (enc y) _ _ _ _ (strs_sorted enc (hstr x.1 x.2) (hblk x.1 x.2)) (strs_sorted enc (hstr y.1 y.2) (hblk y.1 y.2)) (hpos x.1 x.2) (hpos y.1 y.2)).mono fun e w' ⟨he, q, hq⟩ => ⟨he, q, #[], by rw [hq, Go.Sort.grow_empty]⟩
    have hcell : ∀ j, j < us.length → W.cell? ⟨g, j, none⟩ = some (us.getD j U0) := fun j hj => by
      rw [h.own.cellAt j (by omega), valD hj, List.getElem?_eq_getElem hj]
    have hfz : ∀ j, W.frozen? ⟨g, j, none⟩ = false := fun j => h.own.frozenAt j
    have hH : Go.Sort.Holds enc W g 0 d := fun j hj => by
      rw [hds] at hj
      rw [hdj j hj, Nat.zero_add]
      exact ⟨hcell j hj, hfz j⟩
    have hcon := Tryz.slices_SortFunc_total enc (fun x => by obtain ⟨a, c, e⟩ := own_cell (h.st x.1 x.2); show Value.oneCell' (us.getD x.1 U0) = true; rw [e]; rfl) (fun x y => cmpS (hd x) (hd y)) hO 13 #[] g 0 cap d W eg_grp1 hcmp hH hg2 (by rw [hds]; omega) (fun x y h1 h2 => by
      rw [hlt] at h1 h2
      exact hinj x y (ltS_eq h1 h2))
    rw [hds] at hcon
    refine hcon.mono ?_
    rintro e w' ⟨rfl, m, os, rfl⟩
    refine ⟨rfl, below_sortWorld enc (Below.refl base W) g 0 m _ os hbg hbase, ?_⟩
    have hperm : (d.toList.mergeSort fun x y => !(ltOf (fun x y => cmpS (hd x) (hd y))) y x).Perm (List.finRange us.length) := by
      have := List.mergeSort_perm d.toList (fun x y => !(ltOf (fun x y => cmpS (hd x) (hd y))) y x)
      simpa [d] using this
    have hsrt : (d.toList.mergeSort fun x y => !(ltOf (fun x y => cmpS (hd x) (hd y))) y x).Pairwise (fun x y => (!(ltOf (fun x y => cmpS (hd x) (hd y))) y x) = true) := by
      refine List.pairwise_mergeSort ?_ ?_ _
      · intro a b c h1 h2
        simp only [Bool.not_eq_true'] at h1 h2 ⊢
        exact hO.ntrans _ _ _ h2 h1
      · intro a b
        cases h3 : ltOf (fun x y => cmpS (hd x) (hd y)) b a with
        | false => simp
        | true =>
          rw [hlt] at h3
          have h4 := ltS_asymm h3
          rw [hlt, h4]; rfl
    generalize (d.toList.mergeSort fun x y => !(ltOf (fun x y => cmpS (hd x) (hd y))) y x) = L at *
    have hLl : L.length = us.length := by rw [hperm.length_eq]; simp
    have hnd : L.Nodup := hperm.nodup_iff.2 (List.nodup_finRange _)
    refine ⟨L.map (fun j => G.getD j.1 0), ⟨?_, ?_⟩, L.map enc, ?_, by simp, fun q hq => (h.own.lt q hq).1, ?_⟩
    · have h1 := hperm.map (fun j : _root_.Fin us.length => G.getD j.1 0)
      have h2 : (List.finRange us.length).map (fun j : _root_.Fin us.length => G.getD j.1 0) = G := by
        apply List.ext_getElem
        · simp [hln]
        · intro i h1 h2
          simp only [List.getElem_map, List.getElem_finRange]
          exact natD h2
      rw [h2] at h1
      exact h1
    · rw [List.pairwise_map]
      refine (hsrt.and hnd).imp ?_
      intro a b hab
      have h1 : ltS (hd b) (hd a) = false := by rw [← hlt]; simpa using hab.1
      exact ltS_of h1 (fun e => hab.2 (hinj b a e).symm)
    · have hhold := holds_sortWorld enc W g 0 m d L.toArray os hg2 hH (by rw [hds]; simp [hLl])
      refine ⟨_, cap, by rw [List.length_map, hLl], by rw [List.length_map, hLl]; exact hnc, by rw [List.length_map, hLl]; omega, fun u hu => ?_, fun _ => ⟨g, 0, rfl, lt_sortWorld enc W g 0 m L.toArray os hg2, fun j hj => ?_⟩⟩
      · obtain ⟨x, _, rfl⟩ := List.mem_map.1 hu
        obtain ⟨a, c, e⟩ := own_cell (h.st x.1 x.2)
        show Value.oneCell' (us.getD x.1 U0) = true
        rw [e]; rfl
      · rw [List.length_map] at hj
        have := (hhold j (by simpa using hj)).1
        rw [this, valD (by simpa using hj), List.getElem_map, getElem!_pos L.toArray j (by simpa using hj)]
        simp
    · intro j hj
      rw [List.length_map] at hj
      have e1 : (L.map enc).getD j U0 = us.getD (L[j]).1 U0 := by rw [valD (by simpa using hj), List.getElem_map]
      have e2 : (L.map (fun j : _root_.Fin us.length => G.getD j.1 0)).getD j 0 = G.getD (L[j]).1 0 := by rw [natD (by simpa using hj), List.getElem_map]
      rw [e1, e2]
      refine ⟨?_, fun q hq => ((h.st (L[j]).1 (L[j]).2).lt q hq).1⟩
      have h7 := strs_sorted enc (off := 0) (n := m) (dk := L.toArray) (os := os) (hstr (L[j]).1 (L[j]).2) (hblk (L[j]).1 (L[j]).2)
      refine h7.more ?_
      unfold sortWorld
      rw [Go.Sort.size_grow, Go.Sort.size_putRow]
      show W.heap.size ≤ W.heap.size + _
      omega

end Go.Proofs.YteomlacohddecaaGreat

/- hardlink.Groups at every tree: its walk. Conditions: the tree's cells lie in memory as they read. -/

set_option linter.all false
namespace Go.Proofs.YteomlacohddecaaGreat
open Go.RowKit

/-- What hardlink.Groups returns: the fault, or the files with several names in the order of their first paths. -/
def GroupsPost (t : Tr) (w : World) (e : Ending) (w' : World) : Prop :=
  ((valT t).1 ≠ 0 ∧ e = .returned (.tuple #[.slice none 0 0, faultV (valT t).1 (valT t).2]) ∧ Below w.heap.size w w') ∨
    ((valT t).1 = 0 ∧ ∃ v M, e = .returned (.tuple #[v, faultV 0 0]) ∧ SrtG t M (gN t t.length) ∧ GR t w' (w.heap.size + 2) w'.heap.size v M ∧ Below w.heap.size w w')
theorem GR.lower {t : Tr} {w : World} {lo lo' B : Nat} {v : Value} {M : List Nat} (h : GR t w lo B v M) (hl : lo' ≤ lo) : GR t w lo' B v M := by
  obtain ⟨us, h1, h2, h4, h3⟩ := h
  exact ⟨us, h1, h2, fun q hq => Nat.le_trans hl (h4 q hq), fun j hj => ⟨(h3 j hj).1, fun q hq => Nat.le_trans hl ((h3 j hj).2 q hq)⟩⟩
theorem Row.grownH {w w' : World} {R m : Nat} {f : Nat → Value} {row : Option Nat} (h : Row w R m f) (hg : w.grownBy w' row) (hn : some R ≠ row) : Row w' R m f := by
  have hb := hg.block R h.lt hn
  exact ⟨Nat.lt_of_lt_of_le h.lt hg.size, fun j hj => (World.cell?_of_block (a := ⟨R, j, none⟩) hb).trans (h.c j hj), fun j => by
    have := h.fz j
    unfold World.frozen? at this ⊢
    simpa only [hb] using this⟩
/-- What holds while hardlink.Groups gathers. -/
structure GInv (w wr : World) (a : Option Addr) (c : Nat) (t : Tr) (R base : Nat) (v : Value) (us : List Value) (k : Nat) : Prop where
  b : Below w.heap.size w wr
  tb : One wr w.heap.size (.slice a t.length c)
  fb : FBox wr (w.heap.size + 1) 0 0
  row : Row wr R t.length (fun j => .int .i64 (refs t j : Nat))
  gr : GRow wr base t v us (gN t k)
theorem GInv.step {w wr z : World} {a : Option Addr} {c : Nat} {t : Tr} {R base : Nat} {v : Value} {us : List Value} {k : Nat} (h : GInv w wr a c t R base v us k) (hb : Below wr.heap.size wr z) : GInv w z a c t R base v us k :=
  ⟨h.b.trans (hb.mono h.b.size), h.tb.below hb h.tb.lt, h.fb.below hb h.fb.lt, h.row.below hb h.row.lt, h.gr.below hb⟩

set_option maxRecDepth 100000 in
set_option maxHeartbeats 3200000 in
theorem groups_any (a : Option Addr) (c : Nat) (t : Tr) (w : World) (h : Nods w w.heap.size a c t) :
    Calls Tryz.prog 4 #[.agg #[.slice a t.length c]] w (GroupsPost t w) := by
  have C1 := Lib.hid (fun W (hb : Below w.heap.size w W) => counts_any a c t W (h.up hb))
  have T0 := Lib.hid (show One ((w.alloc (.cells #[.slice a t.length c] 24)).alloc (.cells #[.int .i64 0, .int .i64 0] 27)) w.heap.size (.slice a t.length c) from (One.new w _ _).alloc _)
  have F0 := Lib.hid (show FBox ((w.alloc (.cells #[.slice a t.length c] 24)).alloc (.cells #[.int .i64 0, .int .i64 0] 27)) (w.heap.size + 1) 0 0 from (FBox.new (w.alloc _) 0 0 _).at_ (by simp))
  have B0 := Lib.hid (show Below w.heap.size w ((w.alloc (.cells #[.slice a t.length c] 24)).alloc (.cells #[.int .i64 0, .int .i64 0] 27)) from ((Below.refl _ _).alloc (Nat.le_refl _) _).alloc (by first | omega | (simp; done) | (simp; omega)) _)
  unfold CountsPost faultV at C1
  unfold GroupsPost
  by_cases hq : (valT t).1 = 0
  · obtain ⟨hd, p4⟩ := valT_ok hq
    have hz := valT_zero hq
    have O2 := Lib.hid (Pass.ok2 hd (p4.mono (by omega)))
    have HQ := Lib.hid hq
    have h40 := O2.out.le
    have HP := Lib.hid (fun k (hk : k < t.length) (hr : 1 < refs t k) W (hb : Below w.heap.size w W) (base : Nat) (hbs : base ≤ W.heap.size) => (pathsOf_own a c t (k : Int) W (h.up hb)).mono fun e w' hp => (show ∃ v, e = .returned (.tuple #[v, .agg #[.int .i64 0, .int .i64 0]]) ∧ w'.ownsRow base 9 1 v (pths t k).length ((pths t k).map Value.string) ∧ Below W.heap.size W w' from by
      have hu : used t (k : Int) = true := by
        rw [used_iff]
        have := refs_used O2.out.toOk1 (Nat.lt_trans Nat.zero_lt_one hr)
        exact ⟨by omega, by simpa using this.1, by simpa using this.2⟩
      have hpf : pofF t (k : Int) = (0, 0) := by unfold pofF; rw [if_neg (by simpa using hq), if_pos hu]
      rcases hp with ⟨h1, _⟩ | ⟨_, v, P, h1, h2, h3, h4, h5⟩
      · rw [hpf] at h1; exact absurd rfl h1
      · obtain rfl := pths_eq O2.out h2
        exact ⟨v, h1, own_le h5 hbs, h4⟩))
    have HSRT := Lib.hid (fun (W : World) (base : Nat) (v : Value) (us : List Value) (hg : GRow W base t v us (gN t t.length)) (hb : base ≤ W.heap.size) => sortGrp_any t O2.out W base v us (gN t t.length) hg (by
      unfold gN; exact List.Pairwise.sublist List.filter_sublist List.nodup_range) (fun n hn => pths_ne hd p4 (Nat.lt_trans Nat.zero_lt_one (gN_mem.1 hn).2)) (Nat.le_trans (gN_len t _) h40) hb)
    have HG0 := Lib.hid (gN_zero t)
    have HGS := Lib.hid (gN_succ t)
    rw [hz] at C1
    clear hd p4 hq hz h
    go_enter Tryz.func4, Tryz.ntmps4
    go_wp2_with fail
    refine (C1.out _ B0.out).mono ?_
    rintro e W1 (⟨hx, _⟩ | ⟨_, R, hR, rfl, hrow, b1⟩)
    · exact absurd rfl hx
    have hs0 : w.heap.size + 1 < ((w.alloc (.cells #[.slice a t.length c] 24)).alloc (.cells #[.int .i64 0, .int .i64 0] 27)).heap.size := F0.out.lt
    have hR2 : w.heap.size + 1 < R := Nat.lt_of_lt_of_le hs0 hR
    have hRl := hrow.lt
    have I1 := Lib.hid (show GInv w (W1.alloc (.cells #[.int .i64 0, .int .i64 0] 27)) a c t R (W1.heap.size + 1) (.slice none 0 0) [] 0 from
      ⟨(B0.out.trans (b1.mono B0.out.size)).alloc (Nat.le_trans B0.out.size b1.size) _, (T0.out.below b1 T0.out.lt).alloc _, (F0.out.below b1 F0.out.lt).alloc _, hrow.alloc _, ⟨⟨rfl, .inl ⟨rfl, rfl⟩⟩, by rw [HG0.out]; rfl, fun j hj => absurd hj (Nat.not_lt_zero _)⟩⟩)
    have hws : w.heap.size + 1 < W1.heap.size := by omega
    clear b1 hrow C1 T0 F0 B0 HG0 hs0
    go_wp2_with fail
    generalize hW2 : W1.alloc (.cells #[.int .i64 0, .int .i64 0] 27) = W2 at *
    have hb2 : W1.heap.size + 1 ≤ W2.heap.size := by rw [← hW2]; simp
    clear hW2
    generalize hbs : W1.heap.size + 1 = base at *
    have hRb : R < base := by omega
    have hwb : w.heap.size + 1 < base := by omega
    go_loopg [6, 7, 8, 9, 10, 22] t.length (fun gg s6 _ _ _ _ s22 wr => ∃ (k : Nat) (us : List Value), k ≤ t.length ∧ t.length - k ≤ gg ∧ s22 = .int .i64 k ∧ base ≤ wr.heap.size ∧ Aside (GInv w wr a c t R base s6 us k))
    case atStart => exact ⟨0, [], by omega, by omega, rfl, hb2, I1.out⟩
    case round =>
      obtain ⟨k, us, hk, hg, rfl, hbw, I⟩ := hrel
      clear I1
      obtain ⟨w2, rfl⟩ : ∃ w2 : World, w2 = wr := ⟨_, rfl⟩
      obtain ⟨va, vc, rfl⟩ := own_cell I.out.gr.own
      by_cases hlt : k < t.length
      · have hltz : (k : Int) < (t.length : Int) := by omega
        have hk0 : (0 : Int) ≤ (k : Int) := Int.natCast_nonneg _
        have r0 := I.out.row.c k hlt
        have rl := I.out.row.lt
        have HGK := Lib.hid (HGS.out k)
        have HPK := Lib.hid (HP.out k hlt)
        have hul : us.length ≤ 40 := by have := I.out.gr.ln; have := gN_len t k; omega
        generalize hm : refs t k = m at *
        have HM := Lib.hid hm
        clear hm
        by_cases hc : 1 < m
        · have hcz : (1 : Int) < (m : Int) := by omega
          rw [if_pos hc] at HGK
          have HPK2 := Lib.hid (HPK.out hc)
          have tc := I.out.tb.c0
          have tl := I.out.tb.lt
          clear HPK
          go_wp2_with fail
          refine (HPK2.out _ I.out.b base hbw).mono ?_
          rintro e w3 ⟨u, rfl, hown, b3⟩
          obtain ⟨ua, uc, rfl⟩ := own_cell hown
          have B4 := Lib.hid (show Below w3.heap.size w3 ((w3.alloc (.cells #[.int .i64 0, .int .i64 0] 27)).alloc (.cells #[.slice ua (pths t k).length uc] 39)) from ((Below.refl _ _).alloc (Nat.le_refl _) _).alloc (by first | omega | (simp; done) | (simp; omega)) _)
          have I4 := Lib.hid ((I.out.step b3).step B4.out)
          have U4 := Lib.hid (own_below hown B4.out)
          have hb3 := b3.size
          have hbw4 : base ≤ w3.heap.size := by omega
          clear hown b3 B4 tc tl r0 rl I
          generalize hpl : (pths t k).length = pl at *
          have HPL := Lib.hid hpl
          clear hpl
          go_wp2_with (at_builtin; refine wpList_append_val rfl (.tmp 35) (.tmp 37) rfl base (.slice va us.length vc) us.length us rfl I4.out.gr.own (w3.heap.size + 1) (.slice ua pl uc) rfl rfl (by simp) (by omega) (by simp; omega) ?_; intro v5 w5 ho5 hg5)
          have hlow := I4.out.gr.own.lt
          have I5 := Lib.hid (show GInv w w5 a c t R base v5 (us ++ [.slice ua pl uc]) (k + 1) from
            ⟨I4.out.b.grown hg5 (by simp; omega) (fun g hg => by have := (hlow g hg).1; omega), I4.out.tb.grown hg5 (fun e => by have := (hlow _ e.symm).1; omega), I4.out.fb.grown hg5 (fun e => by have := (hlow _ e.symm).1; omega), I4.out.row.grownH hg5 (fun e => by have := (hlow _ e.symm).1; omega), by
              rw [HGK.out]
              exact I4.out.gr.app (by rw [HPL.out]; exact U4.out) ho5 hg5⟩)
          have hs5 : base ≤ w5.heap.size := Nat.le_trans (by simp; omega) hg5.size
          clear ho5 hg5 hlow I4 U4
          go_wp2
          go_roundg (t.length - (k + 1))
          case measure => omega
          case rel => exact ⟨k + 1, _, by omega, by omega, by go_num, hs5, I5.out⟩
        · have hcz : ¬ (1 : Int) < (m : Int) := by omega
          rw [if_neg hc] at HGK
          have I2 := Lib.hid (show GInv w w2 a c t R base (.slice va us.length vc) us (k + 1) from ⟨I.out.b, I.out.tb, I.out.fb, I.out.row, by rw [HGK.out]; exact I.out.gr⟩)
          clear HPK
          go_wp2
          go_roundg (t.length - (k + 1))
          case measure => omega
          case rel => exact ⟨k + 1, us, by omega, by omega, by go_num, hbw, I2.out⟩
      · obtain rfl : k = t.length := by omega
        have HS := Lib.hid (HSRT.out _ base _ us I.out.gr hbw)
        go_wp2_with fail
        refine HS.out.mono ?_
        rintro e w5 ⟨rfl, b5, M, hM, hgr⟩
        have F5 := Lib.hid (I.out.fb.below b5 hwb)
        have B5 := Lib.hid (I.out.b.trans (b5.mono (by omega)))
        have HM := Lib.hid hM
        have HGR := Lib.hid (((hgr.setLow (p := ⟨w.heap.size + 1, 0, none⟩) (by simp; omega) (.int .i64 0)).setLow (p := ⟨w.heap.size + 1, 1, none⟩) (by simp; omega) (.int .i64 0)).lower (show w.heap.size + 2 ≤ base by omega))
        obtain ⟨l9, a0, a1, f0, f1⟩ := F5.out
        clear b5 hM hgr HS I
        go_wp2
        exact bodyPost_ret (v := .tuple #[.slice va us.length vc, faultV 0 0]) (by simp [results, Tryz.results4, faultV, go_sem, a0, a1, l9]) rfl (.inr ⟨HQ.out, _, M, rfl, HM.out, by simpa using HGR.out, (B5.out.setCell (by simp) _).setCell (by simp) _⟩)
  · have hq1 : ((valT t).1 != 0) = true := by simpa using hq
    have HQ := Lib.hid hq
    have C1b := Lib.hid (fun W (hb : Below w.heap.size w W) => (C1.out W hb).mono fun e w' hh => (show e = .returned (.tuple #[.slice none 0 0, .agg #[.int .i64 (valT t).1, .int .i64 (valT t).2]]) ∧ Below W.heap.size W w' from by
      rcases hh with ⟨_, h1⟩ | ⟨h0, _⟩
      · exact h1
      · exact absurd h0 hq))
    clear h hq C1
    generalize (valT t).1 = q at *
    generalize (valT t).2 = r at *
    go_enter Tryz.func4, Tryz.ntmps4
    go_wp2_with fail
    refine (C1b.out _ B0.out).mono ?_
    rintro e W1 ⟨rfl, b1⟩
    have F1 := Lib.hid (F0.out.below b1 F0.out.lt)
    have B1 := Lib.hid (B0.out.trans (b1.mono B0.out.size))
    obtain ⟨l9, a0, a1, f0, f1⟩ := F1.out
    have hs1 := B1.out.size
    clear b1
    go_wp2
    go_region
    go_wp2
    exact bodyPost_ret (v := .tuple #[.slice none 0 0, faultV q r]) (by simp [results, Tryz.results4, faultV, go_sem, a0, a1, l9]) rfl (.inl ⟨HQ.out, rfl, by repeat (first | exact B1.out | refine Below.setCell ?_ (by first | omega | (simp; done) | (simp; omega)) _ | refine Below.alloc ?_ (by first | omega | (simp; done) | (simp; omega)) _ | refine Below.drew ?_)⟩)

end Go.Proofs.YteomlacohddecaaGreat

/- The reference's PathsOf at every valid tree: the wanted paths in ascending order. Conditions: the tree's cells lie in memory as they read. -/

set_option linter.all false
namespace Go.Proofs.YteomlacohddecaaGreat
open Go.RowKit

theorem pathsW_take {want : Nat → Bool} {L : List Vis} {j : Nat} (h : j < L.length) : pathsW want (L.take (j + 1)) = if want (L.getD j V0).2 = true then pathsW want (L.take j) ++ [bP (L.getD j V0).1] else pathsW want (L.take j) := by
  rw [List.take_succ_eq_append_getElem h, pathsW_snoc, visD h]
/-- What holds while the paths are gathered. -/
structure PR (w wr : World) (rv : Value) (L : List Vis) (want : Nat → Bool) (j : Nat) (v : Value) : Prop where
  b : Below w.heap.size w wr
  vs : Vs wr w.heap.size rv L
  own : wr.ownsRow w.heap.size 9 1 v (pathsW want (L.take j)).length ((pathsW want (L.take j)).map Value.string)

set_option maxRecDepth 100000 in
set_option maxHeartbeats 3200000 in
theorem refPathsOf_any (a : Option Addr) (c : Nat) (t : Tr) (n : Int) (w : World) (o1 : Ok1 t) (fr : From t 0) (h : Nods w w.heap.size a c t) :
    Calls Tryz.prog 22 #[.agg #[.slice a t.length c], .int .i64 n] w (SortPost (pathsW (fun m => (m : Int) == n || decide (n < 0)) (visits t 0)) w) := by
  have D := Lib.hid (fun W (hb : Below w.heap.size w W) => routes_any a c t 0 W o1 fr (h.up hb))
  have HN := Lib.hid (fun (want : Nat → Bool) L (hL : (visits t 0).Perm L) => pathsW_nodup o1 fr want hL)
  have HFT := Lib.hid (fun (want : Nat → Bool) L (hL : (visits t 0).Perm L) => pathsW_fits o1 fr (want := want) hL)
  have hl6 := len_visits o1 fr
  clear o1 fr h
  go_enter Tryz.func22, Tryz.ntmps22
  go_wp2_with fail
  refine (D.out _ ((Below.refl _ _).alloc (Nat.le_refl _) _)).mono ?_
  rintro e w2 ⟨v, L, rfl, hvs, hperm, _, b2⟩
  have B2 := Lib.hid (show Below w.heap.size w w2 from ((Below.refl _ _).alloc (Nat.le_refl _) _).trans (b2.mono (by first | omega | (simp; done) | (simp; omega))))
  have hLl : L.length ≤ 641 := by rw [← hperm.length_eq]; exact hl6
  have HN2 := Lib.hid (HN.out (fun m => (m : Int) == n || decide (n < 0)) L hperm)
  have HF2 := Lib.hid (HFT.out (fun m => (m : Int) == n || decide (n < 0)) L hperm)
  have HM := Lib.hid (fun x => pathsW_mem (want := fun m => (m : Int) == n || decide (n < 0)) hperm x)
  have HW := Lib.hid (show ∀ m : Nat, (fun m : Nat => (m : Int) == n || decide (n < 0)) m = ((m : Int) == n || decide (n < 0)) from fun _ => rfl)
  have V5 := Lib.hid hvs
  obtain ⟨rb, rc, rfl, hrc, hL0, hrb, _⟩ := hvs
  clear b2 hperm D HN HFT
  have X0 := Lib.hid (show PR w2 w2 (.slice (some ⟨rb, 0, none⟩) L.length rc) L (fun m => (m : Int) == n || decide (n < 0)) 0 (.slice none 0 0) from ⟨Below.refl _ _, V5.out, by rw [List.take_zero]; exact ⟨rfl, .inl ⟨rfl, rfl⟩⟩⟩)
  generalize hwt : (fun m : Nat => (m : Int) == n || decide (n < 0)) = want at *
  have HWT := Lib.hid hwt
  clear hwt
  go_wp2_with fail
  go_loopg [5, 7] L.length (fun gg s5 s7 wr => ∃ j : Nat, j ≤ L.length ∧ L.length - j ≤ gg ∧ s7 = .int .i64 j ∧ Aside (PR w2 wr (.slice (some ⟨rb, 0, none⟩) L.length rc) L want j s5))
  case atStart => exact ⟨0, by omega, by omega, rfl, X0.out⟩
  case round =>
    obtain ⟨j, hj, hg, rfl, X⟩ := hrel
    clear X0
    by_cases hlt : j < L.length
    · have hltz : (j : Int) < (L.length : Int) := by omega
      have hj0 : (0 : Int) ≤ (j : Int) := Int.natCast_nonneg _
      have hm9 : L.length - (j + 1) < L.length - j := Nat.sub_lt_sub_left hlt (Nat.lt_succ_self j)
      obtain ⟨_, r0, _, r2⟩ := X.out.vs.cell hlt
      have HT := Lib.hid (pathsW_take (want := want) hlt)
      have hW := HW.out (L.getD j V0).2
      have hpl := pathsW_len want (L.take j)
      rw [List.length_take] at hpl
      generalize L.getD j V0 = p at *
      obtain ⟨xs, m⟩ := p
      simp only at r0 r2 HT hW
      cases hmb : ((m : Int) == n) with
      | true =>
        have hwm : want m = true := by rw [hW, hmb]; rfl
        have HT2 := Lib.hid (show pathsW want (L.take (j + 1)) = pathsW want (L.take j) ++ [bP xs] from by rw [HT.out, if_pos hwm])
        clear hW hwm HT
        go_wp2_with (at_builtin; refine wpList_put1 rfl (.tmp 27) (.tmp 33) rfl w2.heap.size u5 _ _ rfl (own_below X.out.own ((Below.refl wr.heap.size wr).alloc (Nat.le_refl _) _)) wr.heap.size (bP xs) rfl (by simp) (by omega) (by have := X.out.b.size; first | omega | (simp; omega)) ?_; intro g1 cap1 W4 P1)
        have XX := Lib.hid (show PR w2 W4 (.slice (some ⟨rb, 0, none⟩) L.length rc) L want (j + 1) (.slice (some ⟨g1, 0, none⟩) ((pathsW want (L.take j)).length + 1) cap1) from by
          have hb : Below w2.heap.size wr W4 := ((Below.refl _ _).alloc X.out.b.size _).grown P1.grown (by have := X.out.b.size; first | omega | (simp; omega)) (fun q hq => own_low X.out.own q hq)
          refine ⟨X.out.b.trans hb, X.out.vs.below hb, ?_⟩
          rw [HT2.out, List.length_append, List.map_append]
          exact P1.own)
        clear P1
        go_wp2_with fail
        go_roundg (L.length - (j + 1))
        case measure => exact Nat.lt_of_lt_of_le hm9 hg
        case rel => exact ⟨j + 1, by omega, by omega, by go_num, XX.out⟩
      | false =>
        by_cases hn0 : n < 0
        · have hwm : want m = true := by rw [hW, hmb, decide_eq_true hn0]; rfl
          have HT2 := Lib.hid (show pathsW want (L.take (j + 1)) = pathsW want (L.take j) ++ [bP xs] from by rw [HT.out, if_pos hwm])
          clear hW hwm HT
          go_wp2_with (at_builtin; refine wpList_put1 rfl (.tmp 27) (.tmp 33) rfl w2.heap.size u5 _ _ rfl (own_below X.out.own ((Below.refl wr.heap.size wr).alloc (Nat.le_refl _) _)) wr.heap.size (bP xs) rfl (by simp) (by omega) (by have := X.out.b.size; first | omega | (simp; omega)) ?_; intro g1 cap1 W4 P1)
          have XX := Lib.hid (show PR w2 W4 (.slice (some ⟨rb, 0, none⟩) L.length rc) L want (j + 1) (.slice (some ⟨g1, 0, none⟩) ((pathsW want (L.take j)).length + 1) cap1) from by
            have hb : Below w2.heap.size wr W4 := ((Below.refl _ _).alloc X.out.b.size _).grown P1.grown (by have := X.out.b.size; first | omega | (simp; omega)) (fun q hq => own_low X.out.own q hq)
            refine ⟨X.out.b.trans hb, X.out.vs.below hb, ?_⟩
            rw [HT2.out, List.length_append, List.map_append]
            exact P1.own)
          clear P1
          go_wp2_with fail
          go_roundg (L.length - (j + 1))
          case measure => exact Nat.lt_of_lt_of_le hm9 hg
          case rel => exact ⟨j + 1, by omega, by omega, by go_num, XX.out⟩
        · have hnb : decide (n < 0) = false := by rw [decide_eq_false_iff_not]; exact hn0
          have hwm : want m = false := by rw [hW, hmb, hnb]; rfl
          have HT2 := Lib.hid (show pathsW want (L.take (j + 1)) = pathsW want (L.take j) from by rw [HT.out, if_neg (by rw [hwm]; simp)])
          clear hW hwm HT hn0
          have XX := Lib.hid (show PR w2 wr (.slice (some ⟨rb, 0, none⟩) L.length rc) L want (j + 1) u5 from ⟨X.out.b, X.out.vs, by rw [HT2.out]; exact X.out.own⟩)
          go_wp2_with fail
          go_roundg (L.length - (j + 1))
          case measure => exact Nat.lt_of_lt_of_le hm9 hg
          case rel => exact ⟨j + 1, by omega, by omega, by go_num, XX.out⟩
    · obtain rfl : j = L.length := by omega
      have hO := X.out.own
      rw [List.take_length] at hO
      have hpl := pathsW_len want L
      have BB := Lib.hid X.out.b
      have hbs := X.out.b.size
      have hb2 := B2.out.size
      have HSO := Lib.hid (sortStrings_any u5 (pathsW want L) wr (strs_row hO HF2.out (by omega)) HN2.out (by omega))
      unfold SortPost at HSO
      clear hO X
      go_wp2_with fail
      refine HSO.out.mono ?_
      rintro e w9 ⟨v9, P, rfl, ha, hs, hlow, b9⟩
      have FIN := Lib.hid (show SortPost (pathsW want (visits t 0)) w (.returned v9) w9 from ⟨v9, P, rfl, ⟨ha.1, fun x => (ha.2 x).trans (HM.out x).symm⟩, hs, fun q hq => by have := hlow q hq; omega, (B2.out.trans (BB.out.mono hb2)).trans (b9.mono (by omega))⟩)
      clear ha hs hlow b9 HSO
      go_wp2
      go_ret
      have hfin := FIN.out
      rw [← HWT.out] at hfin
      exact hfin

end Go.Proofs.YteomlacohddecaaGreat

/- The reference's Groups at every valid tree. Conditions: the tree is valid; its cells lie in memory as they read. -/

set_option linter.all false
namespace Go.Proofs.YteomlacohddecaaGreat
open Go.RowKit

theorem vals_one (w : World) (n : Nat) (hn : n = w.heap.size) (x : Value) (hx : x.oneCell' = true) (t : TypeId) : Vals (w.alloc (.cells #[x] t)) (w.heap.size + 1) (.slice (some ⟨n, 0, none⟩) 1 1) [x] := by
  subst hn
  refine ⟨_, _, rfl, by simp, by simp, by simpa using hx, fun _ => ⟨_, _, rfl, by simp, ?_⟩⟩
  intro j hj
  match j, hj with
  | 0, _ => simp
theorem Strs.at0 {w : World} {B b o n c : Nat} {P : List ByteArray} (h : Strs w B (.slice (some ⟨b, o, none⟩) n c) P) (h0 : 0 < P.length) : w.cell? ⟨b, o, none⟩ = some (.string (P.getD 0 ByteArray.empty)) ∧ b < B := by
  obtain ⟨b', o', e, hb, hj⟩ := h.spot h0
  injection e with e
  injection e with e1 e2
  subst e1 e2
  have := hj 0 h0
  rw [Nat.add_zero] at this
  exact ⟨this, hb⟩
theorem st_ins {p : Value → Nat → Prop} {us : List Value} {M : List Nat} (hl : us.length = M.length) {k : Nat} (hk : k ≤ us.length) (h : ∀ j, j < us.length → p (us.getD j U0) (M.getD j 0)) {lv : Value} {n : Nat} (hn : p lv n) :
    ∀ j, j < (us.take k ++ [lv] ++ us.drop k).length → p ((us.take k ++ [lv] ++ us.drop k).getD j U0) ((M.take k ++ [n] ++ M.drop k).getD j 0) := by
  intro j hj
  have hlen : (us.take k).length = k := by simp; omega
  have hlenM : (M.take k).length = k := by simp; omega
  rw [List.length_append, List.length_append, List.length_drop, hlen, List.length_singleton] at hj
  rw [List.getD_eq_getElem?_getD, List.getD_eq_getElem?_getD, List.append_assoc, List.append_assoc, List.singleton_append, List.singleton_append]
  rcases Nat.lt_trichotomy j k with e | e | e
  · rw [List.getElem?_append_left (by omega), List.getElem?_append_left (by omega), List.getElem?_take_of_lt e, List.getElem?_take_of_lt e]
    have := h j (by omega)
    rw [List.getD_eq_getElem?_getD, List.getD_eq_getElem?_getD] at this
    exact this
  · subst e
    rw [List.getElem?_append_right (by omega), List.getElem?_append_right (by omega), hlen, hlenM]
    simpa using hn
  · obtain ⟨m, rfl⟩ := Nat.exists_eq_add_of_lt e
    rw [List.getElem?_append_right (by omega), List.getElem?_append_right (by omega), hlen, hlenM, show k + m + 1 - k = m + 1 by omega, List.getElem?_cons_succ, List.getElem?_cons_succ, List.getElem?_drop, List.getElem?_drop]
    have := h (k + m) (by omega)
    rw [List.getD_eq_getElem?_getD, List.getD_eq_getElem?_getD] at this
    exact this
/-- What holds at the head of the outer loop. -/
structure RGI (w wr : World) (a : Option Addr) (c : Nat) (t : Tr) (v : Value) (us : List Value) (M : List Nat) (k : Nat) : Prop where
  B : Below w.heap.size w wr
  tb : One wr w.heap.size (.slice a t.length c)
  own : wr.ownsRow w.heap.size 39 1 v us.length us
  ln : us.length = M.length
  srt : SrtG t M (gN t k)
  st : ∀ j, j < us.length → (us.getD j U0).oneCell' = true ∧ Strs wr wr.heap.size (us.getD j U0) (pths t (M.getD j 0))
theorem RGI.drewN {w wr : World} {a : Option Addr} {c : Nat} {t : Tr} {v : Value} {us : List Value} {M : List Nat} {k : Nat} (h : RGI w wr a c t v us M k) (q : Nat) : RGI w (wr.drewN q) a c t v us M k := ⟨below_drewN h.B q, ⟨h.tb.lt, h.tb.c0, h.tb.f0⟩, h.own, h.ln, h.srt, h.st⟩
theorem RGI.step {w wr z : World} {a : Option Addr} {c : Nat} {t : Tr} {v : Value} {us : List Value} {M : List Nat} {k : Nat} (h : RGI w wr a c t v us M k) (hb : Below wr.heap.size wr z) : RGI w z a c t v us M k :=
  ⟨h.B.trans (hb.mono h.B.size), h.tb.below hb h.tb.lt, own_below h.own hb, h.ln, h.srt, fun j hj => ⟨(h.st j hj).1, ((h.st j hj).2.below hb).more hb.size⟩⟩
theorem RGI.one {w wr : World} {a : Option Addr} {c : Nat} {t : Tr} {v : Value} {us : List Value} {M : List Nat} {k : Nat} (h : RGI w wr a c t v us M k) : ∀ u ∈ us, u.oneCell' = true := by
  intro u hu
  obtain ⟨j, hj, rfl⟩ := List.mem_iff_getElem.1 hu
  rw [← valD hj]; exact (h.st j hj).1
theorem RGI.len {w wr : World} {a : Option Addr} {c : Nat} {t : Tr} {v : Value} {us : List Value} {M : List Nat} {k : Nat} (h : RGI w wr a c t v us M k) : us.length ≤ k := by
  rw [h.ln, h.srt.1.length_eq]; exact gN_len t k
theorem RGI.next {w wz y : World} {a : Option Addr} {c : Nat} {t : Tr} {v x : Value} {us : List Value} {M : List Nat} {i k : Nat} (h : RGI w wz a c t v us M i) (hk : k ≤ us.length) {lv : Value} (h1 : lv.oneCell' = true) (hs : Strs wz wz.heap.size lv (pths t i)) (hr : 1 < refs t i) (hsrt : SrtG t (M.take k ++ [i] ++ M.drop k) (gN t i ++ [i])) (ho : y.ownsRow w.heap.size 39 1 x (us.take k ++ [lv] ++ us.drop k).length (us.take k ++ [lv] ++ us.drop k)) (hb : Below wz.heap.size wz y) : RGI w y a c t x (us.take k ++ [lv] ++ us.drop k) (M.take k ++ [i] ++ M.drop k) (i + 1) := by
  refine ⟨h.B.trans (hb.mono h.B.size), h.tb.below hb h.tb.lt, ho, ?_, by rw [gN_succ, if_pos hr]; exact hsrt, ?_⟩
  · have := h.ln
    simp only [List.length_append, List.length_take, List.length_drop, List.length_singleton]; omega
  · exact st_ins (p := fun u n => u.oneCell' = true ∧ Strs y y.heap.size u (pths t n)) h.ln hk (fun j hj => ⟨(h.st j hj).1, ((h.st j hj).2.below hb).more hb.size⟩) ⟨h1, (hs.below hb).more hb.size⟩

set_option maxRecDepth 100000 in
set_option maxHeartbeats 8000000 in
theorem refGroups_any (a : Option Addr) (c : Nat) (t : Tr) (w : World) (hd : Head t) (p4 : Pass t 4) (h : Nods w w.heap.size a c t) :
    Calls Tryz.prog 10 #[.agg #[.slice a t.length c]] w fun e w' => ∃ v M, e = .returned v ∧ SrtG t M (gN t t.length) ∧ GR t w' 0 w'.heap.size v M ∧ Below w.heap.size w w' := by
  have O2 := Lib.hid (Pass.ok2 hd (p4.mono (by omega)))
  have h40 := O2.out.le
  have CL := Lib.hid (fun n W (hb : Below w.heap.size w W) => linkCount_any a c t n W O2.out.toOk1 (h.up hb))
  have CP := Lib.hid (fun (n : Nat) W (hb : Below w.heap.size w W) => (refPathsOf_any a c t (n : Int) W O2.out.toOk1 O2.out.from0 (h.up hb)).mono fun e w' hp => (show ∃ v, e = .returned v ∧ Strs w' w'.heap.size v (pths t n) ∧ Below W.heap.size W w' from by
    have hwt : (fun m : Nat => (m : Int) == (n : Int) || decide ((n : Int) < 0)) = fun m : Nat => (m : Int) == (n : Int) := by funext m; rw [decide_eq_false (by omega), Bool.or_false]
    rw [hwt] at hp
    obtain ⟨v, P, h1, h2, h3, _, h5⟩ := hp
    obtain rfl := pths_eq O2.out h2
    exact ⟨v, h1, h3, h5⟩))
  have HNE := Lib.hid (fun n (hr : 1 < refs t n) => pths_ne hd p4 (Nat.lt_trans Nat.zero_lt_one hr))
  have T0 := Lib.hid (One.new w (.slice a t.length c) 24)
  have B0 := Lib.hid ((Below.refl w.heap.size w).alloc (Nat.le_refl _) (.cells #[.slice a t.length c] 24))
  have I0 := Lib.hid (show RGI w (w.alloc (.cells #[.slice a t.length c] 24)) a c t (.slice none 0 0) [] [] 0 from ⟨B0.out, T0.out, ⟨rfl, .inl ⟨rfl, rfl⟩⟩, rfl, ⟨by rw [gN_zero], List.Pairwise.nil⟩, fun j hj => absurd hj (Nat.not_lt_zero _)⟩)
  clear h hd p4 T0 B0
  go_enter Tryz.func10, Tryz.ntmps10
  go_wp2_with fail
  go_loopg [3, 4, 5, 6] t.length (fun gg s3 s4 _ _ wr => ∃ (i : Nat) (us : List Value) (M : List Nat), i ≤ t.length ∧ t.length - i ≤ gg ∧ s4 = .int .i64 i ∧ Aside (RGI w wr a c t s3 us M i))
  case atStart => exact ⟨0, [], [], by omega, by omega, rfl, I0.out⟩
  case round =>
    obtain ⟨i, us, M, hi, hg, rfl, I⟩ := hrel
    clear I0
    obtain ⟨w2, rfl⟩ : ∃ w2 : World, w2 = wr := ⟨_, rfl⟩
    obtain ⟨a7, c7, rfl⟩ := own_cell I.out.own
    have tc := I.out.tb.c0
    have tl := I.out.tb.lt
    by_cases hlt : i < t.length
    · have hltz : (i : Int) < (t.length : Int) := by omega
      have hi0 : (0 : Int) ≤ (i : Int) := Int.natCast_nonneg _
      have CLi := Lib.hid (CL.out i)
      have CPi := Lib.hid (CP.out i)
      have HNi := Lib.hid (HNE.out i)
      have hul := I.out.len
      generalize hm : refs t i = m at CLi
      have HM := Lib.hid hm
      clear hm
      go_wp2_with fail
      refine (CLi.out _ I.out.B).mono ?_
      rintro e w3 ⟨rfl, b3⟩
      have I3 := Lib.hid (I.out.step b3)
      clear b3 tc tl I CLi
      have tc := I3.out.tb.c0
      have tl := I3.out.tb.lt
      by_cases hc : m < 2
      · have hcz : (m : Int) < 2 := by omega
        have I4 := Lib.hid (show RGI w w3 a c t (.slice a7 us.length c7) us M (i + 1) from ⟨I3.out.B, I3.out.tb, I3.out.own, I3.out.ln, by rw [gN_succ, if_neg (by have := HM.out; omega)]; exact I3.out.srt, I3.out.st⟩)
        go_wp2
        go_roundg (t.length - (i + 1))
        case measure => omega
        case rel => exact ⟨i + 1, _, _, by omega, by omega, by go_num, I4.out⟩
      · have hcz : ¬ (m : Int) < 2 := by omega
        have HR := Lib.hid (show 1 < refs t i from by have := HM.out; omega)
        go_wp2_with fail
        refine (CPi.out _ I3.out.B).mono ?_
        rintro e w4 ⟨lv, rfl, hls, b4⟩
        obtain ⟨la, lc, rfl, hlc⟩ := hls.form rfl
        have hpl := HNi.out HR.out
        obtain ⟨bl, ol, rfl, _, _⟩ := hls.spot hpl
        have HLS := Lib.hid hls
        have I4 := Lib.hid (I3.out.step b4)
        have HNEW := Lib.hid (show ∀ j, j < us.length → hdP t (M.getD j 0) ≠ hdP t i from fun j hj e => by
          have hmem : M.getD j 0 ∈ gN t i := (I4.out.srt.1.mem_iff).1 (by rw [natD (by rw [← I4.out.ln]; exact hj)]; exact List.getElem_mem _)
          have hm2 := gN_mem.1 hmem
          have := hdP_inj O2.out (HNE.out _ hm2.2) (HNE.out _ HR.out) e
          omega)
        have HPOS := Lib.hid (show ∀ j, j < us.length → 0 < (pths t (M.getD j 0)).length from fun j hj => by
          have hmem : M.getD j 0 ∈ gN t i := (I4.out.srt.1.mem_iff).1 (by rw [natD (by rw [← I4.out.ln]; exact hj)]; exact List.getElem_mem _)
          exact HNE.out _ (gN_mem.1 hmem).2)
        have hplz : (0 : Int) < ((pths t i).length : Int) := by omega
        clear hls b4 I3 tc tl CPi HNi hcz hc
        generalize hln2 : (pths t i).length = ln at *
        generalize hnm : hdP t i = nm at *
        have HPL := Lib.hid (show 0 < (pths t i).length by rw [hln2]; exact hpl)
        clear hln2
        have NM := Lib.hid hnm
        clear hnm
        go_wp2_with fail
        go_loopg [6] us.length (fun gg s6 w5 => ∃ k : Nat, k ≤ us.length ∧ us.length - k ≤ gg ∧ s6 = .int .i64 k ∧ Aside (RGI w w5 a c t (.slice a7 us.length c7) us M i) ∧ Aside (Strs w5 w5.heap.size (.slice (some ⟨bl, ol, none⟩) ln lc) (pths t i)) ∧ Aside (∀ j, j < k → ltS (hdP t (M.getD j 0)) nm = true))
        case atStart => exact ⟨0, by omega, by omega, rfl, I4.out, HLS.out, (show Aside _ from fun j hj => absurd hj (Nat.not_lt_zero _))⟩
        case round =>
          obtain ⟨k, hk, hgk, rfl, I5, HL5, KA⟩ := hrel
          clear I4 HLS
          have hl0 := HL5.out.at0 HPL.out
          have lc0 := hl0.1
          have hbl := hl0.2
          change wr.cell? ⟨bl, ol, none⟩ = some (.string (hdP t i)) at lc0
          rw [NM.out] at lc0
          clear hl0
          have hk0 : (0 : Int) ≤ (k : Int) := Int.natCast_nonneg _
          have SA := Lib.hid (vals_row I5.out.own I5.out.one (by omega))
          by_cases hkl : k < us.length
          · have hklz : (k : Int) < (us.length : Int) := by omega
            obtain ⟨b7, o7, rfl, hb7, hj7⟩ := SA.out.spot (by omega)
            have k0 := hj7 k hkl
            obtain ⟨az, cz, hz1, hz2⟩ := (I5.out.st k hkl).2.form rfl
            have hzp := HPOS.out k hkl
            have hzs := (I5.out.st k hkl).2
            rw [hz1] at k0 hzs
            obtain ⟨bz, oz, rfl, hbz0, hjz⟩ := hzs.spot hzp
            have z0 := hjz 0 hzp
            rw [Nat.add_zero] at z0
            change wr.cell? ⟨bz, oz, none⟩ = some (.string (hdP t (M.getD k 0))) at z0
            have hzn := HNEW.out k hkl
            have hzpz : (0 : Int) < ((pths t (M.getD k 0)).length : Int) := by omega
            generalize hzl : (pths t (M.getD k 0)).length = zl at *
            clear hj7 hjz hzl hz1 hzs hzp
            generalize hz : hdP t (M.getD k 0) = z at *
            have Z := Lib.hid hz
            clear hz
            cases hlz : ltS z nm with
            | true =>
              have hle : Op.bytesLess z.toList nm.toList = true := hlz
              have KZ := Lib.hid hlz
              clear hlz hzn
              go_wp2_with fail
              go_quiet (fail)
              go_wp2_with fail
              go_roundg (us.length - (k + 1))
              case measure => omega
              case rel =>
                refine ⟨k + 1, by omega, by omega, by go_num, I5.out.drewN nq, HL5.out, (show Aside _ from fun j hj => ?_)⟩
                by_cases e : j = k
                · subst e; rw [Z.out]; exact KZ.out
                · exact KA.out j (by omega)
            | false =>
              have hle : Op.bytesLess z.toList nm.toList = false := hlz
              have hkM : k ≤ M.length := by rw [← I5.out.ln]; exact hk
              have HI := Lib.hid (I5.out.srt.ins (n := i) hkM (fun j hj => by rw [NM.out]; exact KA.out j hj) (fun _ => by rw [NM.out, Z.out]; exact ltS_of hlz hzn))
              clear hlz hzn hkM
              have hck : ¬ c7 = k := by have := (SA.out.form rfl); obtain ⟨_, _, e, h9⟩ := this; injection e with _ _ e3; omega
              have hkc : (k : Int) ≤ (c7 : Int) := by obtain ⟨_, _, e, h9⟩ := SA.out.form rfl; injection e with _ _ e3; omega
              have hkl2 : (k : Int) ≤ (us.length : Int) := by omega
              have hlc2 : (us.length : Int) ≤ (c7 : Int) := by obtain ⟨_, _, e, h9⟩ := SA.out.form rfl; injection e with _ _ e3; omega
              have t0 := I5.out.tb.c0
              have tl := I5.out.tb.lt
              go_wp2_with fail
              go_quiet (fail)
              obtain ⟨hbz, G2, I2, SA2, HL2⟩ : w.heap.size < wr.heap.size ∧ Hid ((wr.drewN nq).cell? ⟨w.heap.size, 0, none⟩ = some (.slice a t.length c)) ∧ Hid (RGI w (wr.drewN nq) a c t (.slice (some ⟨b7, o7, none⟩) us.length c7) us M i) ∧ Hid (Vals (wr.drewN nq) (wr.drewN nq).heap.size (.slice (some ⟨b7, o7, none⟩) us.length c7) us) ∧ Hid (Strs (wr.drewN nq) (wr.drewN nq).heap.size (.slice (some ⟨bl, ol, none⟩) ln lc) (pths t i)) := ⟨tl, Lib.hid t0, Lib.hid (I5.out.drewN nq), Lib.hid SA.out, Lib.hid HL5.out⟩
              change w.heap.size < (wr.drewN nq).heap.size at hbz
              clear I5 SA t0 tl KA k0 z0 lc0 hbl HL5
              generalize wr.drewN nq = wz at *
              go_wp2_with fail
              go_region_held3 (fun y => y.cell? ⟨w.heap.size, 0, none⟩ = some (.slice a t.length c))
                (first | exact kf | exact G2.out | exact cell_al kf _ | exact cell_al G2.out _ | exact cell_al (cell_al G2.out _) _ | go_keep)
                (first
                  | (refine step_append_vals (by rfl) (.tmp 39) (.tmp 42) (by rfl) wz.heap.size (.slice (some ⟨wz.heap.size, 0, none⟩) 0 0) 0 [] (by simp [Act.eval]) ((own_empty wz wz.heap.size _ 39 (Nat.le_refl _) rfl).drew) wz.heap.size (.slice (some ⟨b7, o7, none⟩) k c7) (us.take k) (by simp [Act.eval]) ((SA2.out.cut hk).alloc (Nat.le_refl _) _).drew (by first | omega | (simp; done) | (simp; omega)) (by first | omega | (simp; done) | (simp; omega)) ?_; intro x1 y1 hown1 hg1; have hB1 : Below wz.heap.size wz y1 := (((Below.refl _ _).alloc (Nat.le_refl _) _).drew).grown hg1 (by first | omega | (simp; done) | (simp; omega)) (fun g hg => by simp [Value.ownBlock] at hg; omega); have hs1 := hB1.size; have hq : y1.heap.size = y1.heap.size := rfl; have kf : y1.cell? ⟨w.heap.size, 0, none⟩ = some (.slice a t.length c) := (hB1.cell (p := ⟨w.heap.size, 0, none⟩) hbz).trans G2.out)
                  | (refine step_append_vals (by rfl) (.tmp 39) (.tmp 42) (by rfl) wz.heap.size (.slice (some ⟨wz.heap.size, 0, none⟩) 0 0) 0 [] (by simp [Act.eval]) (((own_empty wz wz.heap.size _ 39 (Nat.le_refl _) rfl).alloc _).drew) wz.heap.size (.slice (some ⟨b7, o7, none⟩) k c7) (us.take k) (by simp [Act.eval]) (((SA2.out.cut hk).alloc (Nat.le_refl _) _).alloc (by first | omega | (simp; done) | (simp; omega)) _).drew (by first | omega | (simp; done) | (simp; omega)) (by first | omega | (simp; done) | (simp; omega)) ?_; intro x1 y1 hown1 hg1; have hB1 : Below wz.heap.size wz y1 := ((((Below.refl _ _).alloc (Nat.le_refl _) _).alloc (by first | omega | (simp; done) | (simp; omega)) _).drew).grown hg1 (by first | omega | (simp; done) | (simp; omega)) (fun g hg => by simp [Value.ownBlock] at hg; omega); have hs1 := hB1.size; have hq : y1.cell? ⟨wz.heap.size + 1, 0, none⟩ = some (Value.slice (some ⟨bl, ol, none⟩) ln lc) := cell_grown hg1 (show World.cell? ((wz.alloc (.cells #[] 39)).alloc (.cells #[(Value.slice (some ⟨bl, ol, none⟩) ln lc)] 39)) ⟨wz.heap.size + 1, 0, none⟩ = _ from by simp) (by simp [Value.ownBlock]); have kf : y1.cell? ⟨w.heap.size, 0, none⟩ = some (.slice a t.length c) := (hB1.cell (p := ⟨w.heap.size, 0, none⟩) hbz).trans G2.out)
                  | (refine step_append_vals (by rfl) (.tmp 39) (.tmp 42) (by rfl) wz.heap.size (.slice (some ⟨wz.heap.size + 1, 0, none⟩) 0 0) 0 [] (by simp [Act.eval]) ((own_empty (wz.alloc (.cells #[(Value.slice (some ⟨bl, ol, none⟩) ln lc)] 39)) wz.heap.size _ 39 (by first | omega | (simp; done) | (simp; omega)) (by simp)).drew) wz.heap.size (.slice (some ⟨b7, o7, none⟩) k c7) (us.take k) (by simp [Act.eval]) (((SA2.out.cut hk).alloc (Nat.le_refl _) _).alloc (by first | omega | (simp; done) | (simp; omega)) _).drew (by first | omega | (simp; done) | (simp; omega)) (by first | omega | (simp; done) | (simp; omega)) ?_; intro x1 y1 hown1 hg1; have hB1 : Below wz.heap.size wz y1 := ((((Below.refl _ _).alloc (Nat.le_refl _) _).alloc (by first | omega | (simp; done) | (simp; omega)) _).drew).grown hg1 (by first | omega | (simp; done) | (simp; omega)) (fun g hg => by simp [Value.ownBlock] at hg; omega); have hs1 := hB1.size; have hq : y1.cell? ⟨wz.heap.size, 0, none⟩ = some (Value.slice (some ⟨bl, ol, none⟩) ln lc) := cell_grown hg1 (show World.cell? ((wz.alloc (.cells #[(Value.slice (some ⟨bl, ol, none⟩) ln lc)] 39)).alloc (.cells #[] 39)) ⟨wz.heap.size, 0, none⟩ = _ from by simp) (by simp [Value.ownBlock]); have kf : y1.cell? ⟨w.heap.size, 0, none⟩ = some (.slice a t.length c) := (hB1.cell (p := ⟨w.heap.size, 0, none⟩) hbz).trans G2.out)
                  | (refine step_append_vals (by rfl) (.tmp 43) (.tmp 45) (by rfl) wz.heap.size x1 _ _ (by simp [Act.eval]) (hown1.alloc _) _ (.slice (some ⟨y1.heap.size, 0, none⟩) 1 1) [(Value.slice (some ⟨bl, ol, none⟩) ln lc)] (by simp [Act.eval]) (vals_one y1 _ rfl (Value.slice (some ⟨bl, ol, none⟩) ln lc) rfl _) (by first | omega | (simp; done) | (simp; omega)) (by first | omega | (simp; done) | (simp; omega)) ?_; intro x2 y2 hown2 hg2; have hB2 : Below wz.heap.size wz y2 := (hB1.alloc hs1 _).grown hg2 (by first | omega | (simp; done) | (simp; omega)) (fun g hg => (hown1.lt g hg).1); have hs2 := hB2.size; have kf : y2.cell? ⟨w.heap.size, 0, none⟩ = some (.slice a t.length c) := (hB2.cell (p := ⟨w.heap.size, 0, none⟩) hbz).trans G2.out)
                  | (refine step_append_vals (by rfl) (.tmp 43) (.tmp 45) (by rfl) wz.heap.size x1 _ _ (by simp [Act.eval]) hown1 _ (.slice (some ⟨wz.heap.size + 1, 0, none⟩) 1 1) [(Value.slice (some ⟨bl, ol, none⟩) ln lc)] (by simp [Act.eval]) (vals_cell (B := wz.heap.size + 2) hq (by omega) rfl) (by first | omega | (simp; done) | (simp; omega)) (by first | omega | (simp; done) | (simp; omega)) ?_; intro x2 y2 hown2 hg2; have hB2 : Below wz.heap.size wz y2 := (hB1).grown hg2 (by first | omega | (simp; done) | (simp; omega)) (fun g hg => (hown1.lt g hg).1); have hs2 := hB2.size; have kf : y2.cell? ⟨w.heap.size, 0, none⟩ = some (.slice a t.length c) := (hB2.cell (p := ⟨w.heap.size, 0, none⟩) hbz).trans G2.out)
                  | (refine step_append_vals (by rfl) (.tmp 43) (.tmp 45) (by rfl) wz.heap.size x1 _ _ (by simp [Act.eval]) hown1 _ (.slice (some ⟨wz.heap.size, 0, none⟩) 1 1) [(Value.slice (some ⟨bl, ol, none⟩) ln lc)] (by simp [Act.eval]) (vals_cell (B := wz.heap.size + 2) hq (by omega) rfl) (by first | omega | (simp; done) | (simp; omega)) (by first | omega | (simp; done) | (simp; omega)) ?_; intro x2 y2 hown2 hg2; have hB2 : Below wz.heap.size wz y2 := (hB1).grown hg2 (by first | omega | (simp; done) | (simp; omega)) (fun g hg => (hown1.lt g hg).1); have hs2 := hB2.size; have kf : y2.cell? ⟨w.heap.size, 0, none⟩ = some (.slice a t.length c) := (hB2.cell (p := ⟨w.heap.size, 0, none⟩) hbz).trans G2.out)
                  | (refine step_append_vals (by rfl) (.tmp 46) (.tmp 49) (by rfl) wz.heap.size x2 _ _ (by simp [Act.eval]) hown2 wz.heap.size (.slice (some ⟨b7, o7 + k, none⟩) (us.length - k) (c7 - k)) (us.drop k) (by simp [Act.eval]) ((SA2.out.from_ hk).below hB2) (by first | omega | (simp; done) | (simp; omega)) (by first | omega | (simp; done) | (simp; omega)) ?_; intro x3 y3 hown3 hg3; have hB9 : Below wz.heap.size wz y3 := hB2.grown hg3 hs2 (fun g hg => (hown2.lt g hg).1); have kf : y3.cell? ⟨w.heap.size, 0, none⟩ = some (.slice a t.length c) := (hB9.cell (p := ⟨w.heap.size, 0, none⟩) hbz).trans G2.out)
                  | ((trace_state; fail)))
              all_goals
                have hbs := I2.out.B.size
                have HO3 := Lib.hid (show y3.ownsRow w.heap.size 39 1 x3 ((us.take k) ++ [(Value.slice (some ⟨bl, ol, none⟩) ln lc)] ++ (us.drop k)).length ((us.take k) ++ [(Value.slice (some ⟨bl, ol, none⟩) ln lc)] ++ (us.drop k)) from by
                  have h9 := own_le hown3 hbs
                  rw [List.nil_append, Nat.zero_add, ← List.length_append, ← List.length_append] at h9
                  exact h9)
                have HB3 := Lib.hid hB9
                clear hown1 hown2 hown3 hg1 hg2 hg3 hB1 hB2 hB9 kf
                have HN := Lib.hid (I2.out.next hk rfl HL2.out HR.out HI.out HO3.out HB3.out)
                go_wp2
                go_roundg (t.length - (i + 1))
                case measure => omega
                case rel => exact ⟨i + 1, _, _, by omega, by omega, by go_num, HN.out⟩
          · obtain rfl : k = us.length := by omega
            have hkM : us.length ≤ M.length := by rw [← I5.out.ln]; exact Nat.le_refl _
            have HI0 := Lib.hid (I5.out.srt.ins (n := i) hkM (fun j hj => by rw [NM.out]; exact KA.out j hj) (fun h => absurd h (by rw [← I5.out.ln]; exact Nat.lt_irrefl _)))
            clear hkM
            have t0 := I5.out.tb.c0
            have tl := I5.out.tb.lt
            rcases I5.out.own.2 with ⟨h7, h70⟩ | ⟨g7, cap7, cur7, h7, _, _, h77, _, _, _⟩
            · obtain rfl : us = [] := List.eq_nil_of_length_eq_zero h70
              obtain rfl : M = [] := List.eq_nil_of_length_eq_zero (by rw [← I5.out.ln]; rfl)
              injection h7 with e1 _ e2
              subst e1 e2
              clear h70
              have HI : Hid (SrtG t (([] : List Nat) ++ [i] ++ ([] : List Nat)) (gN t i ++ [i])) := HI0
              clear HI0
              go_wp2_with fail
              go_quiet (fail)
              obtain ⟨hbz, G2, I2, SA2, HL2⟩ : w.heap.size < wr.heap.size ∧ Hid ((wr.drewN nq).cell? ⟨w.heap.size, 0, none⟩ = some (.slice a t.length c)) ∧ Hid (RGI w (wr.drewN nq) a c t (.slice none 0 0) [] [] i) ∧ Hid (Vals (wr.drewN nq) (wr.drewN nq).heap.size (.slice none 0 0) []) ∧ Hid (Strs (wr.drewN nq) (wr.drewN nq).heap.size (.slice (some ⟨bl, ol, none⟩) ln lc) (pths t i)) := ⟨tl, Lib.hid t0, Lib.hid (I5.out.drewN nq), Lib.hid SA.out, Lib.hid HL5.out⟩
              change w.heap.size < (wr.drewN nq).heap.size at hbz
              clear I5 SA t0 tl KA lc0 hbl HL5
              generalize wr.drewN nq = wz at *
              go_wp2_with fail
              go_region_held3 (fun y => y.cell? ⟨w.heap.size, 0, none⟩ = some (.slice a t.length c))
                (first | exact kf | exact G2.out | exact cell_al kf _ | exact cell_al G2.out _ | exact cell_al (cell_al G2.out _) _ | go_keep)
                (first
                  | (refine step_append_vals (by rfl) (.tmp 39) (.tmp 42) (by rfl) wz.heap.size (.slice (some ⟨wz.heap.size, 0, none⟩) 0 0) 0 [] (by simp [Act.eval]) ((own_empty wz wz.heap.size _ 39 (Nat.le_refl _) rfl).drew) wz.heap.size (.slice none 0 0) (([] : List Value)) (by simp [Act.eval]) ((SA2.out).alloc (Nat.le_refl _) _).drew (by first | omega | (simp; done) | (simp; omega)) (by first | omega | (simp; done) | (simp; omega)) ?_; intro x1 y1 hown1 hg1; have hB1 : Below wz.heap.size wz y1 := (((Below.refl _ _).alloc (Nat.le_refl _) _).drew).grown hg1 (by first | omega | (simp; done) | (simp; omega)) (fun g hg => by simp [Value.ownBlock] at hg; omega); have hs1 := hB1.size; have hq : y1.heap.size = y1.heap.size := rfl; have kf : y1.cell? ⟨w.heap.size, 0, none⟩ = some (.slice a t.length c) := (hB1.cell (p := ⟨w.heap.size, 0, none⟩) hbz).trans G2.out)
                  | (refine step_append_vals (by rfl) (.tmp 39) (.tmp 42) (by rfl) wz.heap.size (.slice (some ⟨wz.heap.size, 0, none⟩) 0 0) 0 [] (by simp [Act.eval]) (((own_empty wz wz.heap.size _ 39 (Nat.le_refl _) rfl).alloc _).drew) wz.heap.size (.slice none 0 0) (([] : List Value)) (by simp [Act.eval]) (((SA2.out).alloc (Nat.le_refl _) _).alloc (by first | omega | (simp; done) | (simp; omega)) _).drew (by first | omega | (simp; done) | (simp; omega)) (by first | omega | (simp; done) | (simp; omega)) ?_; intro x1 y1 hown1 hg1; have hB1 : Below wz.heap.size wz y1 := ((((Below.refl _ _).alloc (Nat.le_refl _) _).alloc (by first | omega | (simp; done) | (simp; omega)) _).drew).grown hg1 (by first | omega | (simp; done) | (simp; omega)) (fun g hg => by simp [Value.ownBlock] at hg; omega); have hs1 := hB1.size; have hq : y1.cell? ⟨wz.heap.size + 1, 0, none⟩ = some (Value.slice (some ⟨bl, ol, none⟩) ln lc) := cell_grown hg1 (show World.cell? ((wz.alloc (.cells #[] 39)).alloc (.cells #[(Value.slice (some ⟨bl, ol, none⟩) ln lc)] 39)) ⟨wz.heap.size + 1, 0, none⟩ = _ from by simp) (by simp [Value.ownBlock]); have kf : y1.cell? ⟨w.heap.size, 0, none⟩ = some (.slice a t.length c) := (hB1.cell (p := ⟨w.heap.size, 0, none⟩) hbz).trans G2.out)
                  | (refine step_append_vals (by rfl) (.tmp 39) (.tmp 42) (by rfl) wz.heap.size (.slice (some ⟨wz.heap.size + 1, 0, none⟩) 0 0) 0 [] (by simp [Act.eval]) ((own_empty (wz.alloc (.cells #[(Value.slice (some ⟨bl, ol, none⟩) ln lc)] 39)) wz.heap.size _ 39 (by first | omega | (simp; done) | (simp; omega)) (by simp)).drew) wz.heap.size (.slice none 0 0) (([] : List Value)) (by simp [Act.eval]) (((SA2.out).alloc (Nat.le_refl _) _).alloc (by first | omega | (simp; done) | (simp; omega)) _).drew (by first | omega | (simp; done) | (simp; omega)) (by first | omega | (simp; done) | (simp; omega)) ?_; intro x1 y1 hown1 hg1; have hB1 : Below wz.heap.size wz y1 := ((((Below.refl _ _).alloc (Nat.le_refl _) _).alloc (by first | omega | (simp; done) | (simp; omega)) _).drew).grown hg1 (by first | omega | (simp; done) | (simp; omega)) (fun g hg => by simp [Value.ownBlock] at hg; omega); have hs1 := hB1.size; have hq : y1.cell? ⟨wz.heap.size, 0, none⟩ = some (Value.slice (some ⟨bl, ol, none⟩) ln lc) := cell_grown hg1 (show World.cell? ((wz.alloc (.cells #[(Value.slice (some ⟨bl, ol, none⟩) ln lc)] 39)).alloc (.cells #[] 39)) ⟨wz.heap.size, 0, none⟩ = _ from by simp) (by simp [Value.ownBlock]); have kf : y1.cell? ⟨w.heap.size, 0, none⟩ = some (.slice a t.length c) := (hB1.cell (p := ⟨w.heap.size, 0, none⟩) hbz).trans G2.out)
                  | (refine step_append_vals (by rfl) (.tmp 43) (.tmp 45) (by rfl) wz.heap.size x1 _ _ (by simp [Act.eval]) (hown1.alloc _) _ (.slice (some ⟨y1.heap.size, 0, none⟩) 1 1) [(Value.slice (some ⟨bl, ol, none⟩) ln lc)] (by simp [Act.eval]) (vals_one y1 _ rfl (Value.slice (some ⟨bl, ol, none⟩) ln lc) rfl _) (by first | omega | (simp; done) | (simp; omega)) (by first | omega | (simp; done) | (simp; omega)) ?_; intro x2 y2 hown2 hg2; have hB2 : Below wz.heap.size wz y2 := (hB1.alloc hs1 _).grown hg2 (by first | omega | (simp; done) | (simp; omega)) (fun g hg => (hown1.lt g hg).1); have hs2 := hB2.size; have kf : y2.cell? ⟨w.heap.size, 0, none⟩ = some (.slice a t.length c) := (hB2.cell (p := ⟨w.heap.size, 0, none⟩) hbz).trans G2.out)
                  | (refine step_append_vals (by rfl) (.tmp 43) (.tmp 45) (by rfl) wz.heap.size x1 _ _ (by simp [Act.eval]) hown1 _ (.slice (some ⟨wz.heap.size + 1, 0, none⟩) 1 1) [(Value.slice (some ⟨bl, ol, none⟩) ln lc)] (by simp [Act.eval]) (vals_cell (B := wz.heap.size + 2) hq (by omega) rfl) (by first | omega | (simp; done) | (simp; omega)) (by first | omega | (simp; done) | (simp; omega)) ?_; intro x2 y2 hown2 hg2; have hB2 : Below wz.heap.size wz y2 := (hB1).grown hg2 (by first | omega | (simp; done) | (simp; omega)) (fun g hg => (hown1.lt g hg).1); have hs2 := hB2.size; have kf : y2.cell? ⟨w.heap.size, 0, none⟩ = some (.slice a t.length c) := (hB2.cell (p := ⟨w.heap.size, 0, none⟩) hbz).trans G2.out)
                  | (refine step_append_vals (by rfl) (.tmp 43) (.tmp 45) (by rfl) wz.heap.size x1 _ _ (by simp [Act.eval]) hown1 _ (.slice (some ⟨wz.heap.size, 0, none⟩) 1 1) [(Value.slice (some ⟨bl, ol, none⟩) ln lc)] (by simp [Act.eval]) (vals_cell (B := wz.heap.size + 2) hq (by omega) rfl) (by first | omega | (simp; done) | (simp; omega)) (by first | omega | (simp; done) | (simp; omega)) ?_; intro x2 y2 hown2 hg2; have hB2 : Below wz.heap.size wz y2 := (hB1).grown hg2 (by first | omega | (simp; done) | (simp; omega)) (fun g hg => (hown1.lt g hg).1); have hs2 := hB2.size; have kf : y2.cell? ⟨w.heap.size, 0, none⟩ = some (.slice a t.length c) := (hB2.cell (p := ⟨w.heap.size, 0, none⟩) hbz).trans G2.out)
                  | (refine step_append_vals (by rfl) (.tmp 46) (.tmp 49) (by rfl) wz.heap.size x2 _ _ (by simp [Act.eval]) hown2 wz.heap.size (.slice none 0 0) (([] : List Value)) (by simp [Act.eval]) (Vals.none_ _ _) (by first | omega | (simp; done) | (simp; omega)) (by first | omega | (simp; done) | (simp; omega)) ?_; intro x3 y3 hown3 hg3; have hB9 : Below wz.heap.size wz y3 := hB2.grown hg3 hs2 (fun g hg => (hown2.lt g hg).1); have kf : y3.cell? ⟨w.heap.size, 0, none⟩ = some (.slice a t.length c) := (hB9.cell (p := ⟨w.heap.size, 0, none⟩) hbz).trans G2.out)
                  | ((trace_state; fail)))
              all_goals
                have hbs := I2.out.B.size
                have HO3 := Lib.hid (show y3.ownsRow w.heap.size 39 1 x3 ((([] : List Value)) ++ [(Value.slice (some ⟨bl, ol, none⟩) ln lc)] ++ (([] : List Value))).length ((([] : List Value)) ++ [(Value.slice (some ⟨bl, ol, none⟩) ln lc)] ++ (([] : List Value))) from by
                  have h9 := own_le hown3 hbs
                  rw [List.nil_append, Nat.zero_add, ← List.length_append, ← List.length_append] at h9
                  exact h9)
                have HB3 := Lib.hid hB9
                clear hown1 hown2 hown3 hg1 hg2 hg3 hB1 hB2 hB9 kf
                have HN := Lib.hid (I2.out.next (k := 0) (Nat.zero_le _) rfl HL2.out HR.out HI.out HO3.out HB3.out)
                go_wp2
                go_roundg (t.length - (i + 1))
                case measure => omega
                case rel => exact ⟨i + 1, _, _, by omega, by omega, by go_num, HN.out⟩
            · injection h7 with e1 _ e2
              subst e1 e2
              have HI := HI0
              clear HI0
              have hlc2 : (us.length : Int) ≤ (c7 : Int) := by omega
              go_wp2_with fail
              go_quiet (fail)
              obtain ⟨hbz, G2, I2, SA2, HL2⟩ : w.heap.size < wr.heap.size ∧ Hid ((wr.drewN nq).cell? ⟨w.heap.size, 0, none⟩ = some (.slice a t.length c)) ∧ Hid (RGI w (wr.drewN nq) a c t (.slice (some ⟨g7, 0, none⟩) us.length c7) us M i) ∧ Hid (Vals (wr.drewN nq) (wr.drewN nq).heap.size (.slice (some ⟨g7, 0, none⟩) us.length c7) us) ∧ Hid (Strs (wr.drewN nq) (wr.drewN nq).heap.size (.slice (some ⟨bl, ol, none⟩) ln lc) (pths t i)) := ⟨tl, Lib.hid t0, Lib.hid (I5.out.drewN nq), Lib.hid SA.out, Lib.hid HL5.out⟩
              change w.heap.size < (wr.drewN nq).heap.size at hbz
              clear I5 SA t0 tl KA lc0 hbl HL5
              generalize wr.drewN nq = wz at *
              by_cases hck : c7 = us.length
              · subst hck
                go_wp2_with fail
                go_region_held3 (fun y => y.cell? ⟨w.heap.size, 0, none⟩ = some (.slice a t.length c))
                  (first | exact kf | exact G2.out | exact cell_al kf _ | exact cell_al G2.out _ | exact cell_al (cell_al G2.out _) _ | go_keep)
                  (first
                    | (refine step_append_vals (by rfl) (.tmp 39) (.tmp 42) (by rfl) wz.heap.size (.slice (some ⟨wz.heap.size, 0, none⟩) 0 0) 0 [] (by simp [Act.eval]) ((own_empty wz wz.heap.size _ 39 (Nat.le_refl _) rfl).drew) wz.heap.size (.slice (some ⟨g7, 0, none⟩) us.length us.length) (us.take us.length) (by simp [Act.eval]) ((SA2.out.cut (Nat.le_refl _)).alloc (Nat.le_refl _) _).drew (by first | omega | (simp; done) | (simp; omega)) (by first | omega | (simp; done) | (simp; omega)) ?_; intro x1 y1 hown1 hg1; have hB1 : Below wz.heap.size wz y1 := (((Below.refl _ _).alloc (Nat.le_refl _) _).drew).grown hg1 (by first | omega | (simp; done) | (simp; omega)) (fun g hg => by simp [Value.ownBlock] at hg; omega); have hs1 := hB1.size; have hq : y1.heap.size = y1.heap.size := rfl; have kf : y1.cell? ⟨w.heap.size, 0, none⟩ = some (.slice a t.length c) := (hB1.cell (p := ⟨w.heap.size, 0, none⟩) hbz).trans G2.out)
                    | (refine step_append_vals (by rfl) (.tmp 39) (.tmp 42) (by rfl) wz.heap.size (.slice (some ⟨wz.heap.size, 0, none⟩) 0 0) 0 [] (by simp [Act.eval]) (((own_empty wz wz.heap.size _ 39 (Nat.le_refl _) rfl).alloc _).drew) wz.heap.size (.slice (some ⟨g7, 0, none⟩) us.length us.length) (us.take us.length) (by simp [Act.eval]) (((SA2.out.cut (Nat.le_refl _)).alloc (Nat.le_refl _) _).alloc (by first | omega | (simp; done) | (simp; omega)) _).drew (by first | omega | (simp; done) | (simp; omega)) (by first | omega | (simp; done) | (simp; omega)) ?_; intro x1 y1 hown1 hg1; have hB1 : Below wz.heap.size wz y1 := ((((Below.refl _ _).alloc (Nat.le_refl _) _).alloc (by first | omega | (simp; done) | (simp; omega)) _).drew).grown hg1 (by first | omega | (simp; done) | (simp; omega)) (fun g hg => by simp [Value.ownBlock] at hg; omega); have hs1 := hB1.size; have hq : y1.cell? ⟨wz.heap.size + 1, 0, none⟩ = some (Value.slice (some ⟨bl, ol, none⟩) ln lc) := cell_grown hg1 (show World.cell? ((wz.alloc (.cells #[] 39)).alloc (.cells #[(Value.slice (some ⟨bl, ol, none⟩) ln lc)] 39)) ⟨wz.heap.size + 1, 0, none⟩ = _ from by simp) (by simp [Value.ownBlock]); have kf : y1.cell? ⟨w.heap.size, 0, none⟩ = some (.slice a t.length c) := (hB1.cell (p := ⟨w.heap.size, 0, none⟩) hbz).trans G2.out)
                    | (refine step_append_vals (by rfl) (.tmp 39) (.tmp 42) (by rfl) wz.heap.size (.slice (some ⟨wz.heap.size + 1, 0, none⟩) 0 0) 0 [] (by simp [Act.eval]) ((own_empty (wz.alloc (.cells #[(Value.slice (some ⟨bl, ol, none⟩) ln lc)] 39)) wz.heap.size _ 39 (by first | omega | (simp; done) | (simp; omega)) (by simp)).drew) wz.heap.size (.slice (some ⟨g7, 0, none⟩) us.length us.length) (us.take us.length) (by simp [Act.eval]) (((SA2.out.cut (Nat.le_refl _)).alloc (Nat.le_refl _) _).alloc (by first | omega | (simp; done) | (simp; omega)) _).drew (by first | omega | (simp; done) | (simp; omega)) (by first | omega | (simp; done) | (simp; omega)) ?_; intro x1 y1 hown1 hg1; have hB1 : Below wz.heap.size wz y1 := ((((Below.refl _ _).alloc (Nat.le_refl _) _).alloc (by first | omega | (simp; done) | (simp; omega)) _).drew).grown hg1 (by first | omega | (simp; done) | (simp; omega)) (fun g hg => by simp [Value.ownBlock] at hg; omega); have hs1 := hB1.size; have hq : y1.cell? ⟨wz.heap.size, 0, none⟩ = some (Value.slice (some ⟨bl, ol, none⟩) ln lc) := cell_grown hg1 (show World.cell? ((wz.alloc (.cells #[(Value.slice (some ⟨bl, ol, none⟩) ln lc)] 39)).alloc (.cells #[] 39)) ⟨wz.heap.size, 0, none⟩ = _ from by simp) (by simp [Value.ownBlock]); have kf : y1.cell? ⟨w.heap.size, 0, none⟩ = some (.slice a t.length c) := (hB1.cell (p := ⟨w.heap.size, 0, none⟩) hbz).trans G2.out)
                    | (refine step_append_vals (by rfl) (.tmp 43) (.tmp 45) (by rfl) wz.heap.size x1 _ _ (by simp [Act.eval]) (hown1.alloc _) _ (.slice (some ⟨y1.heap.size, 0, none⟩) 1 1) [(Value.slice (some ⟨bl, ol, none⟩) ln lc)] (by simp [Act.eval]) (vals_one y1 _ rfl (Value.slice (some ⟨bl, ol, none⟩) ln lc) rfl _) (by first | omega | (simp; done) | (simp; omega)) (by first | omega | (simp; done) | (simp; omega)) ?_; intro x2 y2 hown2 hg2; have hB2 : Below wz.heap.size wz y2 := (hB1.alloc hs1 _).grown hg2 (by first | omega | (simp; done) | (simp; omega)) (fun g hg => (hown1.lt g hg).1); have hs2 := hB2.size; have kf : y2.cell? ⟨w.heap.size, 0, none⟩ = some (.slice a t.length c) := (hB2.cell (p := ⟨w.heap.size, 0, none⟩) hbz).trans G2.out)
                    | (refine step_append_vals (by rfl) (.tmp 43) (.tmp 45) (by rfl) wz.heap.size x1 _ _ (by simp [Act.eval]) hown1 _ (.slice (some ⟨wz.heap.size + 1, 0, none⟩) 1 1) [(Value.slice (some ⟨bl, ol, none⟩) ln lc)] (by simp [Act.eval]) (vals_cell (B := wz.heap.size + 2) hq (by omega) rfl) (by first | omega | (simp; done) | (simp; omega)) (by first | omega | (simp; done) | (simp; omega)) ?_; intro x2 y2 hown2 hg2; have hB2 : Below wz.heap.size wz y2 := (hB1).grown hg2 (by first | omega | (simp; done) | (simp; omega)) (fun g hg => (hown1.lt g hg).1); have hs2 := hB2.size; have kf : y2.cell? ⟨w.heap.size, 0, none⟩ = some (.slice a t.length c) := (hB2.cell (p := ⟨w.heap.size, 0, none⟩) hbz).trans G2.out)
                    | (refine step_append_vals (by rfl) (.tmp 43) (.tmp 45) (by rfl) wz.heap.size x1 _ _ (by simp [Act.eval]) hown1 _ (.slice (some ⟨wz.heap.size, 0, none⟩) 1 1) [(Value.slice (some ⟨bl, ol, none⟩) ln lc)] (by simp [Act.eval]) (vals_cell (B := wz.heap.size + 2) hq (by omega) rfl) (by first | omega | (simp; done) | (simp; omega)) (by first | omega | (simp; done) | (simp; omega)) ?_; intro x2 y2 hown2 hg2; have hB2 : Below wz.heap.size wz y2 := (hB1).grown hg2 (by first | omega | (simp; done) | (simp; omega)) (fun g hg => (hown1.lt g hg).1); have hs2 := hB2.size; have kf : y2.cell? ⟨w.heap.size, 0, none⟩ = some (.slice a t.length c) := (hB2.cell (p := ⟨w.heap.size, 0, none⟩) hbz).trans G2.out)
                    | (refine step_append_vals (by rfl) (.tmp 46) (.tmp 49) (by rfl) wz.heap.size x2 _ _ (by simp [Act.eval]) hown2 wz.heap.size (.slice (some ⟨g7, 0, none⟩) 0 0) (us.drop us.length) (by simp [Act.eval]) (by rw [List.drop_length]; exact Vals.empty _ _ _ _) (by first | omega | (simp; done) | (simp; omega)) (by first | omega | (simp; done) | (simp; omega)) ?_; intro x3 y3 hown3 hg3; have hB9 : Below wz.heap.size wz y3 := hB2.grown hg3 hs2 (fun g hg => (hown2.lt g hg).1); have kf : y3.cell? ⟨w.heap.size, 0, none⟩ = some (.slice a t.length c) := (hB9.cell (p := ⟨w.heap.size, 0, none⟩) hbz).trans G2.out)
                    | ((trace_state; fail)))
                all_goals
                  have hbs := I2.out.B.size
                  have HO3 := Lib.hid (show y3.ownsRow w.heap.size 39 1 x3 ((us.take us.length) ++ [(Value.slice (some ⟨bl, ol, none⟩) ln lc)] ++ (us.drop us.length)).length ((us.take us.length) ++ [(Value.slice (some ⟨bl, ol, none⟩) ln lc)] ++ (us.drop us.length)) from by
                    have h9 := own_le hown3 hbs
                    rw [List.nil_append, Nat.zero_add, ← List.length_append, ← List.length_append] at h9
                    exact h9)
                  have HB3 := Lib.hid hB9
                  clear hown1 hown2 hown3 hg1 hg2 hg3 hB1 hB2 hB9 kf
                  have HN := Lib.hid (I2.out.next (Nat.le_refl _) rfl HL2.out HR.out HI.out HO3.out HB3.out)
                  go_wp2
                  go_roundg (t.length - (i + 1))
                  case measure => omega
                  case rel => exact ⟨i + 1, _, _, by omega, by omega, by go_num, HN.out⟩
              · go_wp2_with fail
                go_region_held3 (fun y => y.cell? ⟨w.heap.size, 0, none⟩ = some (.slice a t.length c))
                  (first | exact kf | exact G2.out | exact cell_al kf _ | exact cell_al G2.out _ | exact cell_al (cell_al G2.out _) _ | go_keep)
                  (first
                    | (refine step_append_vals (by rfl) (.tmp 39) (.tmp 42) (by rfl) wz.heap.size (.slice (some ⟨wz.heap.size, 0, none⟩) 0 0) 0 [] (by simp [Act.eval]) ((own_empty wz wz.heap.size _ 39 (Nat.le_refl _) rfl).drew) wz.heap.size (.slice (some ⟨g7, 0, none⟩) us.length c7) (us.take us.length) (by simp [Act.eval]) ((SA2.out.cut (Nat.le_refl _)).alloc (Nat.le_refl _) _).drew (by first | omega | (simp; done) | (simp; omega)) (by first | omega | (simp; done) | (simp; omega)) ?_; intro x1 y1 hown1 hg1; have hB1 : Below wz.heap.size wz y1 := (((Below.refl _ _).alloc (Nat.le_refl _) _).drew).grown hg1 (by first | omega | (simp; done) | (simp; omega)) (fun g hg => by simp [Value.ownBlock] at hg; omega); have hs1 := hB1.size; have hq : y1.heap.size = y1.heap.size := rfl; have kf : y1.cell? ⟨w.heap.size, 0, none⟩ = some (.slice a t.length c) := (hB1.cell (p := ⟨w.heap.size, 0, none⟩) hbz).trans G2.out)
                    | (refine step_append_vals (by rfl) (.tmp 39) (.tmp 42) (by rfl) wz.heap.size (.slice (some ⟨wz.heap.size, 0, none⟩) 0 0) 0 [] (by simp [Act.eval]) (((own_empty wz wz.heap.size _ 39 (Nat.le_refl _) rfl).alloc _).drew) wz.heap.size (.slice (some ⟨g7, 0, none⟩) us.length c7) (us.take us.length) (by simp [Act.eval]) (((SA2.out.cut (Nat.le_refl _)).alloc (Nat.le_refl _) _).alloc (by first | omega | (simp; done) | (simp; omega)) _).drew (by first | omega | (simp; done) | (simp; omega)) (by first | omega | (simp; done) | (simp; omega)) ?_; intro x1 y1 hown1 hg1; have hB1 : Below wz.heap.size wz y1 := ((((Below.refl _ _).alloc (Nat.le_refl _) _).alloc (by first | omega | (simp; done) | (simp; omega)) _).drew).grown hg1 (by first | omega | (simp; done) | (simp; omega)) (fun g hg => by simp [Value.ownBlock] at hg; omega); have hs1 := hB1.size; have hq : y1.cell? ⟨wz.heap.size + 1, 0, none⟩ = some (Value.slice (some ⟨bl, ol, none⟩) ln lc) := cell_grown hg1 (show World.cell? ((wz.alloc (.cells #[] 39)).alloc (.cells #[(Value.slice (some ⟨bl, ol, none⟩) ln lc)] 39)) ⟨wz.heap.size + 1, 0, none⟩ = _ from by simp) (by simp [Value.ownBlock]); have kf : y1.cell? ⟨w.heap.size, 0, none⟩ = some (.slice a t.length c) := (hB1.cell (p := ⟨w.heap.size, 0, none⟩) hbz).trans G2.out)
                    | (refine step_append_vals (by rfl) (.tmp 39) (.tmp 42) (by rfl) wz.heap.size (.slice (some ⟨wz.heap.size + 1, 0, none⟩) 0 0) 0 [] (by simp [Act.eval]) ((own_empty (wz.alloc (.cells #[(Value.slice (some ⟨bl, ol, none⟩) ln lc)] 39)) wz.heap.size _ 39 (by first | omega | (simp; done) | (simp; omega)) (by simp)).drew) wz.heap.size (.slice (some ⟨g7, 0, none⟩) us.length c7) (us.take us.length) (by simp [Act.eval]) (((SA2.out.cut (Nat.le_refl _)).alloc (Nat.le_refl _) _).alloc (by first | omega | (simp; done) | (simp; omega)) _).drew (by first | omega | (simp; done) | (simp; omega)) (by first | omega | (simp; done) | (simp; omega)) ?_; intro x1 y1 hown1 hg1; have hB1 : Below wz.heap.size wz y1 := ((((Below.refl _ _).alloc (Nat.le_refl _) _).alloc (by first | omega | (simp; done) | (simp; omega)) _).drew).grown hg1 (by first | omega | (simp; done) | (simp; omega)) (fun g hg => by simp [Value.ownBlock] at hg; omega); have hs1 := hB1.size; have hq : y1.cell? ⟨wz.heap.size, 0, none⟩ = some (Value.slice (some ⟨bl, ol, none⟩) ln lc) := cell_grown hg1 (show World.cell? ((wz.alloc (.cells #[(Value.slice (some ⟨bl, ol, none⟩) ln lc)] 39)).alloc (.cells #[] 39)) ⟨wz.heap.size, 0, none⟩ = _ from by simp) (by simp [Value.ownBlock]); have kf : y1.cell? ⟨w.heap.size, 0, none⟩ = some (.slice a t.length c) := (hB1.cell (p := ⟨w.heap.size, 0, none⟩) hbz).trans G2.out)
                    | (refine step_append_vals (by rfl) (.tmp 43) (.tmp 45) (by rfl) wz.heap.size x1 _ _ (by simp [Act.eval]) (hown1.alloc _) _ (.slice (some ⟨y1.heap.size, 0, none⟩) 1 1) [(Value.slice (some ⟨bl, ol, none⟩) ln lc)] (by simp [Act.eval]) (vals_one y1 _ rfl (Value.slice (some ⟨bl, ol, none⟩) ln lc) rfl _) (by first | omega | (simp; done) | (simp; omega)) (by first | omega | (simp; done) | (simp; omega)) ?_; intro x2 y2 hown2 hg2; have hB2 : Below wz.heap.size wz y2 := (hB1.alloc hs1 _).grown hg2 (by first | omega | (simp; done) | (simp; omega)) (fun g hg => (hown1.lt g hg).1); have hs2 := hB2.size; have kf : y2.cell? ⟨w.heap.size, 0, none⟩ = some (.slice a t.length c) := (hB2.cell (p := ⟨w.heap.size, 0, none⟩) hbz).trans G2.out)
                    | (refine step_append_vals (by rfl) (.tmp 43) (.tmp 45) (by rfl) wz.heap.size x1 _ _ (by simp [Act.eval]) hown1 _ (.slice (some ⟨wz.heap.size + 1, 0, none⟩) 1 1) [(Value.slice (some ⟨bl, ol, none⟩) ln lc)] (by simp [Act.eval]) (vals_cell (B := wz.heap.size + 2) hq (by omega) rfl) (by first | omega | (simp; done) | (simp; omega)) (by first | omega | (simp; done) | (simp; omega)) ?_; intro x2 y2 hown2 hg2; have hB2 : Below wz.heap.size wz y2 := (hB1).grown hg2 (by first | omega | (simp; done) | (simp; omega)) (fun g hg => (hown1.lt g hg).1); have hs2 := hB2.size; have kf : y2.cell? ⟨w.heap.size, 0, none⟩ = some (.slice a t.length c) := (hB2.cell (p := ⟨w.heap.size, 0, none⟩) hbz).trans G2.out)
                    | (refine step_append_vals (by rfl) (.tmp 43) (.tmp 45) (by rfl) wz.heap.size x1 _ _ (by simp [Act.eval]) hown1 _ (.slice (some ⟨wz.heap.size, 0, none⟩) 1 1) [(Value.slice (some ⟨bl, ol, none⟩) ln lc)] (by simp [Act.eval]) (vals_cell (B := wz.heap.size + 2) hq (by omega) rfl) (by first | omega | (simp; done) | (simp; omega)) (by first | omega | (simp; done) | (simp; omega)) ?_; intro x2 y2 hown2 hg2; have hB2 : Below wz.heap.size wz y2 := (hB1).grown hg2 (by first | omega | (simp; done) | (simp; omega)) (fun g hg => (hown1.lt g hg).1); have hs2 := hB2.size; have kf : y2.cell? ⟨w.heap.size, 0, none⟩ = some (.slice a t.length c) := (hB2.cell (p := ⟨w.heap.size, 0, none⟩) hbz).trans G2.out)
                    | (refine step_append_vals (by rfl) (.tmp 46) (.tmp 49) (by rfl) wz.heap.size x2 _ _ (by simp [Act.eval]) hown2 wz.heap.size (.slice (some ⟨g7, us.length, none⟩) 0 (c7 - us.length)) (us.drop us.length) (by simp [Act.eval]) (by rw [List.drop_length]; exact Vals.empty _ _ _ _) (by first | omega | (simp; done) | (simp; omega)) (by first | omega | (simp; done) | (simp; omega)) ?_; intro x3 y3 hown3 hg3; have hB9 : Below wz.heap.size wz y3 := hB2.grown hg3 hs2 (fun g hg => (hown2.lt g hg).1); have kf : y3.cell? ⟨w.heap.size, 0, none⟩ = some (.slice a t.length c) := (hB9.cell (p := ⟨w.heap.size, 0, none⟩) hbz).trans G2.out)
                    | ((trace_state; fail)))
                all_goals
                  have hbs := I2.out.B.size
                  have HO3 := Lib.hid (show y3.ownsRow w.heap.size 39 1 x3 ((us.take us.length) ++ [(Value.slice (some ⟨bl, ol, none⟩) ln lc)] ++ (us.drop us.length)).length ((us.take us.length) ++ [(Value.slice (some ⟨bl, ol, none⟩) ln lc)] ++ (us.drop us.length)) from by
                    have h9 := own_le hown3 hbs
                    rw [List.nil_append, Nat.zero_add, ← List.length_append, ← List.length_append] at h9
                    exact h9)
                  have HB3 := Lib.hid hB9
                  clear hown1 hown2 hown3 hg1 hg2 hg3 hB1 hB2 hB9 kf
                  have HN := Lib.hid (I2.out.next (Nat.le_refl _) rfl HL2.out HR.out HI.out HO3.out HB3.out)
                  go_wp2
                  go_roundg (t.length - (i + 1))
                  case measure => omega
                  case rel => exact ⟨i + 1, _, _, by omega, by omega, by go_num, HN.out⟩
    · obtain rfl : i = t.length := by omega
      have SE := Lib.hid (vals_row I.out.own I.out.one (by have := I.out.len; omega))
      have HG := Lib.hid (show GR t w2 0 w2.heap.size (.slice a7 us.length c7) M from ⟨us, SE.out, I.out.ln, fun q _ => Nat.zero_le _, fun j hj => ⟨(I.out.st j hj).2, fun q _ => Nat.zero_le _⟩⟩)
      go_wp2
      go_ret
      exact ⟨_, M, rfl, I.out.srt, HG.out, I.out.B⟩

end Go.Proofs.YteomlacohddecaaGreat

/- The laws' sample tree: its cells, its fault. No condition. -/

set_option linter.all false
namespace Go.Proofs.YteomlacohddecaaGreat
open Go.RowKit

def bsA : ByteArray := ⟨#[97]⟩
def bsF : ByteArray := ⟨#[102]⟩
/-- A directory, a directory in it, a file of three bytes in that. -/
def sampleT : Tr := [⟨1, 0, [⟨bsA, 1⟩], 0, [], [], 0, 0⟩, ⟨1, 0, [⟨bsF, 2⟩], 0, [], [], 0, 0⟩, ⟨2, 0, [], 3, [], [], 0, 0⟩]
theorem valT_sample : valT sampleT = (0, 0) := by decide +kernel
theorem DEs.one {w : World} {B b : Nat} {x : ByteArray} {i : Int} (hb : b < B) (h0 : w.cell? ⟨b, 0, none⟩ = some (.string x)) (h1 : w.cell? ⟨b, 1, none⟩ = some (.int .i64 i)) (hx : x.size ≤ maxLen) (hi : i64 i) : DEs w B (.slice (some ⟨b, 0, none⟩) 1 1) [⟨x, i⟩] := by
  refine ⟨_, 1, rfl, Nat.le_refl _, by simp, fun e he => ?_, fun _ => ⟨b, 0, rfl, hb, fun j hj => ?_⟩⟩
  · rw [List.mem_singleton] at he; subst he; exact ⟨hx, hi⟩
  · obtain rfl : j = 0 := by simp at hj; omega
    exact ⟨h0, h1⟩

theorem new_cell {w : World} {cs : Array Value} {t : TypeId} {r : Nat × Nat} {n j : Nat} {v : Value} (hn : n = w.heap.size) (h : cs[j]? = some v) : (w.alloc (.cells cs t r)).cell? ⟨n, j, none⟩ = some v := by
  subst hn; rw [cell_of_row _ _ _ _ t r (heap_alloc_new w _)]; exact h
set_option maxRecDepth 100000 in
set_option maxHeartbeats 1600000 in
theorem sample_any (w : World) :
    Calls Tryz.prog 7 #[] w fun e w' => ∃ b, e = .returned (.agg #[.slice (some ⟨b, 0, none⟩) sampleT.length 3]) ∧ Nods w' w'.heap.size (some ⟨b, 0, none⟩) 3 sampleT ∧ Below w.heap.size w w' := by
  have hcv : (convert 47 47 (.slice (some ⟨w.heap.size + 1 + 1 + 1, 0, none⟩) 3 3)).run Tryz.prog ((((w.alloc (.cells #[.slice none 0 0] 24)).alloc (.cells #[.string ⟨#[97]⟩, .int .i64 1] 59)).alloc (.cells #[.string ⟨#[102]⟩, .int .i64 2] 59)).alloc (.cells #[.int .u8 120, .int .u8 121, .int .u8 122] 5)) = .ok (.slice (some ⟨w.heap.size + 1 + 1 + 1, 0, none⟩) 3 3) ((((w.alloc (.cells #[.slice none 0 0] 24)).alloc (.cells #[.string ⟨#[97]⟩, .int .i64 1] 59)).alloc (.cells #[.string ⟨#[102]⟩, .int .i64 2] 59)).alloc (.cells #[.int .u8 120, .int .u8 121, .int .u8 122] 5 (3, 4))) := by
    have := Lib.run_convert_bytes_const (P := Tryz.prog) (((w.alloc (.cells #[.slice none 0 0] 24)).alloc (.cells #[.string ⟨#[97]⟩, .int .i64 1] 59)).alloc (.cells #[.string ⟨#[102]⟩, .int .i64 2] 59)) 47 5 #[.int .u8 120, .int .u8 121, .int .u8 122] 3 3 Tryz.underlying47 Tryz.underlying5
    rw [show (((w.alloc (.cells #[.slice none 0 0] 24)).alloc (.cells #[.string ⟨#[97]⟩, .int .i64 1] 59)).alloc (.cells #[.string ⟨#[102]⟩, .int .i64 2] 59)).heap.size = w.heap.size + 1 + 1 + 1 from by simp] at this
    exact this
  go_enter Tryz.func7, Tryz.ntmps7
  go_wp2
  refine bodyPost_ret (v := .agg #[.slice (some ⟨w.heap.size + 1 + 1 + 1 + 1, 0, none⟩) 3 3]) (by simp [results, Tryz.results7, go_sem]) rfl ⟨_, rfl, ⟨by decide, by decide, fun _ => ⟨_, 0, rfl, by simp, fun j hj => ?_⟩⟩, by repeat (first | exact Below.refl _ _ | refine Below.setCell ?_ (by first | omega | (simp; done) | (simp; omega)) _ | refine Below.alloc ?_ (by first | omega | (simp; done) | (simp; omega)) _)⟩
  have hj3 : j < 3 := hj
  match j, hj3 with
  | 0, _ =>
    exact ⟨.slice (some ⟨w.heap.size + 1, 0, none⟩) 1 1, .slice none 0 0, .slice none 0 0, .slice none 0 0, ⟨new_cell (by simp) rfl, new_cell (by simp) rfl, new_cell (by simp) rfl, new_cell (by simp) rfl, new_cell (by simp) rfl, new_cell (by simp) rfl, new_cell (by simp) rfl, new_cell (by simp) rfl⟩, ⟨DEs.one (by first | (simp; done) | (simp; omega)) (cell_al (cell_al (cell_al (new_cell (by simp) rfl) _) _) _) (cell_al (cell_al (cell_al (new_cell (by simp) rfl) _) _) _) (by decide) (by unfold i64; decide), ⟨none, 0, rfl, by simp [nod, sampleT]⟩, by simp [nod, sampleT], Acls.none_ _ _, Ats.none_ _ _, by unfold i64; decide, by unfold i64; decide, by unfold i64; decide, by unfold i64; decide⟩⟩
  | 1, _ =>
    exact ⟨.slice (some ⟨w.heap.size + 1 + 1, 0, none⟩) 1 1, .slice none 0 0, .slice none 0 0, .slice none 0 0, ⟨new_cell (by simp) rfl, new_cell (by simp) rfl, new_cell (by simp) rfl, new_cell (by simp) rfl, new_cell (by simp) rfl, new_cell (by simp) rfl, new_cell (by simp) rfl, new_cell (by simp) rfl⟩, ⟨DEs.one (by first | (simp; done) | (simp; omega)) (cell_al (cell_al (new_cell (by simp) rfl) _) _) (cell_al (cell_al (new_cell (by simp) rfl) _) _) (by decide) (by unfold i64; decide), ⟨none, 0, rfl, by simp [nod, sampleT]⟩, by simp [nod, sampleT], Acls.none_ _ _, Ats.none_ _ _, by unfold i64; decide, by unfold i64; decide, by unfold i64; decide, by unfold i64; decide⟩⟩
  | 2, _ =>
    exact ⟨.slice none 0 0, .slice (some ⟨w.heap.size + 1 + 1 + 1, 0, none⟩) 3 3, .slice none 0 0, .slice none 0 0, ⟨new_cell (by simp) rfl, new_cell (by simp) rfl, new_cell (by simp) rfl, new_cell (by simp) rfl, new_cell (by simp) rfl, new_cell (by simp) rfl, new_cell (by simp) rfl, new_cell (by simp) rfl⟩, ⟨DEs.none_ _ _, ⟨_, 3, rfl, by simp [nod, sampleT]⟩, by simp [nod, sampleT], Acls.none_ _ _, Ats.none_ _ _, by unfold i64; decide, by unfold i64; decide, by unfold i64; decide, by unfold i64; decide⟩⟩

end Go.Proofs.YteomlacohddecaaGreat

/- The law HardlinkGroupsMatchesSpec returns true at every tree. Conditions: the tree's cells lie in memory as they read. -/

set_option linter.all false
namespace Go.Proofs.YteomlacohddecaaGreat
open Go.RowKit

theorem drewN_oneH (w : World) (b c : Nat) : (w.drewN b).drewN c = w.drewN (b + c) := by rw [World.drewN_drewN]
theorem drewN_moreH (w : World) (a b c : Nat) : (w.drewN (a + b)).drewN c = w.drewN (a + (b + c)) := by
  rw [World.drewN_drewN, Nat.add_assoc]

theorem One.drewN' {w : World} {n : Nat} {v : Value} (h : One w n v) (k : Nat) : One (w.drewN k) n v := ⟨h.lt, h.c0, h.f0⟩
/-- Two slices of the same ints. -/
theorem intsSame_any (b1 o1 c1 b2 o2 c2 n : Nat) (f : Nat → Int) (w : World) (hn : n ≤ 1000) (h1 : ∀ j, j < n → w.cell? ⟨b1, o1 + j, none⟩ = some (.int .i64 (f j))) (h2 : ∀ j, j < n → w.cell? ⟨b2, o2 + j, none⟩ = some (.int .i64 (f j))) :
    Calls Tryz.prog 8 #[.slice (some ⟨b1, o1, none⟩) n c1, .slice (some ⟨b2, o2, none⟩) n c2] w fun e w' => e = .returned (.bool true) ∧ ∃ q, w' = w.drewN q := by
  have HX1 := Lib.hid h1
  have HX2 := Lib.hid h2
  clear h1 h2
  go_enter Tryz.func8, Tryz.ntmps8
  go_wp2
  go_loopg [5] n (fun gg s5 wr => ∃ k q : Nat, k ≤ n ∧ n - k ≤ gg ∧ s5 = .int .i64 k ∧ wr = w.drewN q)
  case atStart => exact ⟨0, 0, by omega, by omega, rfl, rfl⟩
  case round =>
    obtain ⟨k, q, hk, hg, rfl, rfl⟩ := hrel
    by_cases hlt : k < n
    · have hltz : (k : Int) < (n : Int) := by omega
      have hi0 : (0 : Int) ≤ (k : Int) := Int.natCast_nonneg _
      have g0 := HX1.out k hlt
      have d0 := HX2.out k hlt
      generalize f k = y at *
      go_wp2_with fail
      go_quiet (fail)
      go_wp2_with fail
      go_roundg (n - (k + 1))
      case measure => omega
      case rel => exact ⟨k + 1, _, by omega, by omega, by go_num, rfl⟩
    · have hltz : ¬ (k : Int) < (n : Int) := by omega
      go_wp2_with fail
      go_ret
      exact ⟨rfl, _, rfl⟩

set_option maxRecDepth 100000 in
set_option maxHeartbeats 1600000 in
theorem rowsSame_any (t : Tr) (v1 v2 : Value) (M : List Nat) (w : World) (l1 l2 B1 B2 : Nat) (h1 : GR t w l1 B1 v1 M) (h2 : GR t w l2 B2 v2 M) (hM : M.length ≤ 1000) :
    Calls Tryz.prog 9 #[v1, v2] w fun e w' => e = .returned (.bool true) ∧ ∃ q, w' = w.drewN q := by
  obtain ⟨us, hv1, hl1, _, hs1⟩ := h1
  obtain ⟨vs, hv2, hl2, _, hs2⟩ := h2
  obtain ⟨a1, c1, rfl, _⟩ := hv1.form hl1
  obtain ⟨a2, c2, rfl, _⟩ := hv2.form hl2
  have V1 := Lib.hid hv1
  have V2 := Lib.hid hv2
  have S1 := Lib.hid hs1
  have S2 := Lib.hid hs2
  have L1 := Lib.hid hl1
  have L2 := Lib.hid hl2
  clear hv1 hv2 hs1 hs2 hl1 hl2
  generalize hn : M.length = n at *
  clear hn
  go_enter Tryz.func9, Tryz.ntmps9
  go_wp2
  go_loopg [5] n (fun gg s5 wr => ∃ k q : Nat, k ≤ n ∧ n - k ≤ gg ∧ s5 = .int .i64 k ∧ wr = w.drewN q)
  case atStart => exact ⟨0, 0, by omega, by omega, rfl, rfl⟩
  case round =>
    obtain ⟨k, q, hk, hg, rfl, rfl⟩ := hrel
    by_cases hlt : k < n
    · have hltz : (k : Int) < (n : Int) := by omega
      have hi0 : (0 : Int) ≤ (k : Int) := Int.natCast_nonneg _
      obtain ⟨b1, o1, rfl, _, hj1⟩ := V1.out.spot (by rw [L1.out]; omega)
      obtain ⟨b2, o2, rfl, _, hj2⟩ := V2.out.spot (by rw [L2.out]; omega)
      have g0 := hj1 k (by rw [L1.out]; exact hlt)
      have d0 := hj2 k (by rw [L2.out]; exact hlt)
      have e1 := S1.out k (by rw [L1.out]; exact hlt)
      have e2 := S2.out k (by rw [L2.out]; exact hlt)
      have SS := Lib.hid (fun W (h1 : Strs W B1 (us.getD k U0) (pths t (M.getD k 0))) (h2 : Strs W B2 (vs.getD k U0) (pths t (M.getD k 0))) => strsSame_any (us.getD k U0) (vs.getD k U0) (pths t (M.getD k 0)) W B1 B2 h1 h2)
      have E1 := Lib.hid (fun q => (show Strs (w.drewN q) B1 (us.getD k U0) (pths t (M.getD k 0)) from e1.1))
      have E2 := Lib.hid (fun q => (show Strs (w.drewN q) B2 (vs.getD k U0) (pths t (M.getD k 0)) from e2.1))
      have SQ := Lib.hid (fun q => SS.out _ (E1.out q) (E2.out q))
      obtain ⟨x1, y1, z1, _⟩ := e1.1.form rfl
      obtain ⟨x2, y2, z2, _⟩ := e2.1.form rfl
      rw [z1] at g0 SQ
      rw [z2] at d0 SQ
      clear hj1 hj2 e1 e2 SS E1 E2 z1 z2
      generalize (pths t (M.getD k 0)).length = pl at *
      go_wp2_with fail
      go_quiet ((go_at_call 21; refine (SQ.out _).mono ?_; rintro e _ ⟨rfl, _, rfl⟩; exact ⟨rfl, _, drewN_moreH _ _ _ _⟩))
      go_wp2_with fail
      go_roundg (n - (k + 1))
      case measure => omega
      case rel => exact ⟨k + 1, _, by omega, by omega, by go_num, rfl⟩
    · have hltz : ¬ (k : Int) < (n : Int) := by omega
      go_wp2_with fail
      go_ret
      exact ⟨rfl, _, rfl⟩

/-- How many names the sample tree's inodes have. -/
def cntS (j : Nat) : Int := if j = 0 then 0 else 1
theorem refs_sample : ∀ j, j < 3 → ((refs sampleT j : Nat) : Int) = cntS j := by decide +kernel
theorem counts_sample (b : Nat) (w : World) (h : Nods w w.heap.size (some ⟨b, 0, none⟩) 3 sampleT) :
    Calls Tryz.prog 6 #[.agg #[.slice (some ⟨b, 0, none⟩) sampleT.length 3]] w fun e w' => ∃ R, e = .returned (.tuple #[.slice (some ⟨R, 0, none⟩) 3 3, .agg #[.int .i64 0, .int .i64 0]]) ∧ Row w' R 3 (fun j => .int .i64 (cntS j)) ∧ Below w.heap.size w w' := by
  refine (counts_any (some ⟨b, 0, none⟩) 3 sampleT w h).mono ?_
  rintro e w' (⟨h1, _⟩ | ⟨_, R, _, h2, h3, h4⟩)
  · exact absurd (by rw [valT_sample]) h1
  · exact ⟨R, h2, h3.ext (fun j hj => by rw [refs_sample j hj]), h4⟩

set_option maxRecDepth 100000 in
set_option maxHeartbeats 3200000 in
theorem lawGroups_any (a : Option Addr) (c : Nat) (t : Tr) (w : World) (h : Nods w w.heap.size a c t) :
    Calls Tryz.prog 3 #[.agg #[.slice a t.length c]] w fun e w' => e = .returned (.bool true) ∧ Below w.heap.size w w' := by
  have C1 := Lib.hid (fun W (hb : Below w.heap.size w W) => groups_any a c t W (h.up hb))
  have C2 := Lib.hid (fun W (hb : Below w.heap.size w W) => vtree_any a c t W (h.up hb))
  have T0 := Lib.hid (One.new w (.slice a t.length c) 24)
  have B0 := Lib.hid ((Below.refl w.heap.size w).alloc (Nat.le_refl _) (.cells #[.slice a t.length c] 24))
  unfold faultV at C2
  unfold GroupsPost faultV at C1
  by_cases hq : (valT t).1 = 0
  · have hz := valT_zero hq
    obtain ⟨hd, p4⟩ := valT_ok hq
    have C3 := Lib.hid (fun W (hb : Below w.heap.size w W) => refGroups_any a c t W hd p4 (h.up hb))
    have hMl := gN_len t t.length
    have h40 := hd.le
    rw [hz] at C1 C2
    clear hd p4 hq hz h
    go_enter Tryz.func3, Tryz.ntmps3
    go_wp2_with fail
    refine (C1.out _ B0.out).mono ?_
    rintro e W1 (⟨hx, _⟩ | ⟨_, v, M, rfl, hM, hgr, b1⟩)
    · exact absurd rfl hx
    have T1 := Lib.hid ((T0.out.below b1 T0.out.lt).alloc (.cells #[.int .i64 0, .int .i64 0] 27))
    have F1 := Lib.hid (FBox.new W1 0 0 27)
    have B1 := Lib.hid ((B0.out.trans (b1.mono B0.out.size)).alloc (Nat.le_trans B0.out.size b1.size) (.cells #[.int .i64 0, .int .i64 0] 27))
    have GR1 := Lib.hid (hgr.up ((Below.refl W1.heap.size W1).alloc (Nat.le_refl _) (.cells #[.int .i64 0, .int .i64 0] 27)))
    have tc := (T0.out.below b1 T0.out.lt).c0
    have tl := (T0.out.below b1 T0.out.lt).lt
    clear b1 hgr
    go_wp2_with fail
    refine (C2.out _ B1.out).mono ?_
    rintro e W2 ⟨rfl, b2⟩
    have T2 := Lib.hid ((T1.out.below b2 T1.out.lt).alloc (.cells #[.int .i64 0, .int .i64 0] 27))
    have F2 := Lib.hid ((F1.out.below b2 F1.out.lt).alloc (.cells #[.int .i64 0, .int .i64 0] 27))
    have X2 := Lib.hid (FBox.new W2 0 0 27)
    have B2 := Lib.hid ((B1.out.trans (b2.mono B1.out.size)).alloc (Nat.le_trans B1.out.size b2.size) (.cells #[.int .i64 0, .int .i64 0] 27))
    have GR2 := Lib.hid (GR1.out.up (b2.trans ((Below.refl W2.heap.size W2).alloc (Nat.le_refl _) (.cells #[.int .i64 0, .int .i64 0] 27) |>.mono b2.size)))
    clear b2 tc tl T0 T1 F1 B0 B1 C2 C1 GR1
    go_wp2_with fail
    refine (sample_any _).mono ?_
    rintro e W3 ⟨sb, rfl, hn3, b3⟩
    have T3 := Lib.hid (T2.out.below b3 T2.out.lt)
    have F3 := Lib.hid (F2.out.below b3 F2.out.lt)
    have X3 := Lib.hid (X2.out.below b3 X2.out.lt)
    have B3 := Lib.hid (B2.out.trans (b3.mono B2.out.size))
    have GR3 := Lib.hid (GR2.out.up b3)
    have HE := Lib.hid (counts_sample sb W3 hn3)
    clear b3 hn3 T2 F2 X2 B2 GR2
    go_wp2_with fail
    refine HE.out.mono ?_
    rintro e W4 ⟨R, rfl, hrow, b4⟩
    have BN := Lib.hid (show Below W4.heap.size W4 ((W4.alloc (.cells #[.int .i64 0, .int .i64 0] 27)).alloc (.cells #[.int .i64 0, .int .i64 1, .int .i64 1] 3)) from ((Below.refl _ _).alloc (Nat.le_refl _) _).alloc (by first | omega | (simp; done) | (simp; omega)) _)
    have T4 := Lib.hid (T3.out.below b4 T3.out.lt)
    have F4 := Lib.hid (F3.out.below b4 F3.out.lt)
    have X4 := Lib.hid (X3.out.below b4 X3.out.lt)
    have B4 := Lib.hid ((B3.out.trans (b4.mono B3.out.size)).trans (BN.out.mono (Nat.le_trans B3.out.size b4.size)))
    have GR4 := Lib.hid ((GR3.out.up b4).up BN.out)
    have HI := Lib.hid (intsSame_any R 0 3 (W4.heap.size + 1) 0 3 3 cntS ((W4.alloc (.cells #[.int .i64 0, .int .i64 0] 27)).alloc (.cells #[.int .i64 0, .int .i64 1, .int .i64 1] 3)) (by decide) (fun j hj => by rw [Nat.zero_add]; exact (BN.out.cell (p := ⟨R, j, none⟩) hrow.lt).trans (hrow.c j hj)) (fun j hj => by
      rw [Nat.zero_add]
      match j, hj with
      | 0, _ => exact new_cell (by simp) rfl
      | 1, _ => exact new_cell (by simp) rfl
      | 2, _ => exact new_cell (by simp) rfl))
    clear b4 hrow HE T3 F3 X3 B3 GR3
    go_wp2_with fail
    refine HI.out.mono ?_
    rintro e _ ⟨rfl, q5, rfl⟩
    have T5 := Lib.hid ((T4.out.below BN.out T4.out.lt).drewN' q5)
    have F5 := Lib.hid ((F4.out.below BN.out F4.out.lt).drewN q5)
    have X5 := Lib.hid ((X4.out.below BN.out X4.out.lt).drewN q5)
    have B5 := Lib.hid (below_drewN B4.out q5)
    have GR5 := Lib.hid (show GR t (World.drewN ((W4.alloc (.cells #[.int .i64 0, .int .i64 0] 27)).alloc (.cells #[.int .i64 0, .int .i64 1, .int .i64 1] 3)) q5) _ (World.drewN ((W4.alloc (.cells #[.int .i64 0, .int .i64 0] 27)).alloc (.cells #[.int .i64 0, .int .i64 1, .int .i64 1] 3)) q5).heap.size v M from GR4.out)
    clear T4 F4 X4 B4 HI BN GR4
    generalize World.drewN ((W4.alloc (.cells #[.int .i64 0, .int .i64 0] 27)).alloc (.cells #[.int .i64 0, .int .i64 1, .int .i64 1] 3)) q5 = W5 at *
    obtain ⟨l8, t0, t1⟩ := T5.out
    obtain ⟨fl, f0, f1, fz0, fz1⟩ := F5.out
    obtain ⟨xl, x0, x1, xz0, xz1⟩ := X5.out
    go_wp2_with fail
    refine (C3.out _ B5.out).mono ?_
    rintro e W6 ⟨v2, M2, rfl, hM2, hgr2, b6⟩
    obtain rfl : M = M2 := hM.unique hM2
    have B6 := Lib.hid (B5.out.trans (b6.mono B5.out.size))
    have HS := Lib.hid (rowsSame_any t v v2 M W6 _ _ _ _ (GR5.out.below b6) hgr2 (by rw [hM.1.length_eq]; omega))
    clear b6 hgr2 C3 hM hM2 GR5
    go_wp2_with fail
    refine HS.out.mono ?_
    rintro e _ ⟨rfl, q, rfl⟩
    go_wp2
    go_ret
    exact ⟨rfl, below_drewN B6.out _⟩
  · have hq1 : ((valT t).1 != 0) = true := by simpa using hq
    have C1b := Lib.hid (fun W (hb : Below w.heap.size w W) => (C1.out W hb).mono fun e w' hh => (show e = .returned (.tuple #[.slice none 0 0, .agg #[.int .i64 (valT t).1, .int .i64 (valT t).2]]) ∧ Below W.heap.size W w' from by
      rcases hh with ⟨_, h1⟩ | ⟨h0, _⟩
      · exact h1
      · exact absurd h0 hq))
    clear h hq C1
    generalize (valT t).1 = q at *
    generalize (valT t).2 = r at *
    go_enter Tryz.func3, Tryz.ntmps3
    go_wp2_with fail
    refine (C1b.out _ B0.out).mono ?_
    rintro e W1 ⟨rfl, b1⟩
    have T1 := Lib.hid ((T0.out.below b1 T0.out.lt).alloc (.cells #[.int .i64 q, .int .i64 r] 27))
    have F1 := Lib.hid (FBox.new W1 q r 27)
    have B1 := Lib.hid ((B0.out.trans (b1.mono B0.out.size)).alloc (Nat.le_trans B0.out.size b1.size) (.cells #[.int .i64 q, .int .i64 r] 27))
    have tc := (T0.out.below b1 T0.out.lt).c0
    have tl := (T0.out.below b1 T0.out.lt).lt
    clear b1
    go_wp2_with fail
    refine (C2.out _ B1.out).mono ?_
    rintro e W2 ⟨rfl, b2⟩
    have T2 := Lib.hid ((T1.out.below b2 T1.out.lt).alloc (.cells #[.int .i64 q, .int .i64 r] 27))
    have F2 := Lib.hid ((F1.out.below b2 F1.out.lt).alloc (.cells #[.int .i64 q, .int .i64 r] 27))
    have X2 := Lib.hid (FBox.new W2 q r 27)
    have B2 := Lib.hid ((B1.out.trans (b2.mono B1.out.size)).alloc (Nat.le_trans B1.out.size b2.size) (.cells #[.int .i64 q, .int .i64 r] 27))
    clear b2 tc tl T0 T1 F1 B0 B1 C2 C1b
    go_wp2_with fail
    refine (sample_any _).mono ?_
    rintro e W3 ⟨sb, rfl, hn3, b3⟩
    have T3 := Lib.hid (T2.out.below b3 T2.out.lt)
    have F3 := Lib.hid (F2.out.below b3 F2.out.lt)
    have X3 := Lib.hid (X2.out.below b3 X2.out.lt)
    have B3 := Lib.hid (B2.out.trans (b3.mono B2.out.size))
    have HE := Lib.hid (counts_sample sb W3 hn3)
    clear b3 hn3 T2 F2 X2 B2
    go_wp2_with fail
    refine HE.out.mono ?_
    rintro e W4 ⟨R, rfl, hrow, b4⟩
    have BN := Lib.hid (show Below W4.heap.size W4 ((W4.alloc (.cells #[.int .i64 0, .int .i64 0] 27)).alloc (.cells #[.int .i64 0, .int .i64 1, .int .i64 1] 3)) from ((Below.refl _ _).alloc (Nat.le_refl _) _).alloc (by first | omega | (simp; done) | (simp; omega)) _)
    have T4 := Lib.hid (T3.out.below b4 T3.out.lt)
    have F4 := Lib.hid (F3.out.below b4 F3.out.lt)
    have X4 := Lib.hid (X3.out.below b4 X3.out.lt)
    have B4 := Lib.hid ((B3.out.trans (b4.mono B3.out.size)).trans (BN.out.mono (Nat.le_trans B3.out.size b4.size)))
    have HI := Lib.hid (intsSame_any R 0 3 (W4.heap.size + 1) 0 3 3 cntS ((W4.alloc (.cells #[.int .i64 0, .int .i64 0] 27)).alloc (.cells #[.int .i64 0, .int .i64 1, .int .i64 1] 3)) (by decide) (fun j hj => by rw [Nat.zero_add]; exact (BN.out.cell (p := ⟨R, j, none⟩) hrow.lt).trans (hrow.c j hj)) (fun j hj => by
      rw [Nat.zero_add]
      match j, hj with
      | 0, _ => exact new_cell (by simp) rfl
      | 1, _ => exact new_cell (by simp) rfl
      | 2, _ => exact new_cell (by simp) rfl))
    clear b4 hrow HE T3 F3 X3 B3
    go_wp2_with fail
    refine HI.out.mono ?_
    rintro e _ ⟨rfl, q5, rfl⟩
    have T5 := Lib.hid ((T4.out.below BN.out T4.out.lt).drewN' q5)
    have F5 := Lib.hid ((F4.out.below BN.out F4.out.lt).drewN q5)
    have X5 := Lib.hid ((X4.out.below BN.out X4.out.lt).drewN q5)
    have B5 := Lib.hid (below_drewN B4.out q5)
    clear T4 F4 X4 B4 HI BN
    generalize World.drewN ((W4.alloc (.cells #[.int .i64 0, .int .i64 0] 27)).alloc (.cells #[.int .i64 0, .int .i64 1, .int .i64 1] 3)) q5 = W5 at *
    obtain ⟨l8, t0, t1⟩ := T5.out
    obtain ⟨fl, f0, f1, fz0, fz1⟩ := F5.out
    obtain ⟨xl, x0, x1, xz0, xz1⟩ := X5.out
    go_wp2
    go_ret
    exact ⟨rfl, B5.out⟩

end Go.Proofs.YteomlacohddecaaGreat

/- HardlinkGroupsMatchesSpec: for every tree, hardlink.Groups returns the fault that the reference's ValidateTree returns, and for a valid tree the groups that the reference returns; hardlink.Counts of the sample tree is 0, 1, 1; the argument is left as it was.
   No condition: every such input, nil slices too. -/

set_option linter.all false
namespace Go.Proofs.YteomlacohddecaaGreat.rowHardlinkGroupsMatchesSpec
open Go.ChangeShapes Go.WideShapes Go.ChangeAt Go.ChangeMaps Go.RowKit

theorem own : ownKnob Tryz.prog.godebug = none := by kernel_rfl
theorem laidOut : laidOutB Tryz.prog = true := by kernel_rfl

set_option maxRecDepth 100000 in
theorem lifted (os : Os) (started : os.Started) (H : Type) (enc : TypeId × Value → H) :
    ReturnsInHanded {} Tryz.checked os 3 .any (Rows.hardlinkGroupsMatchesSpecSpec.pre6 enc Tryz.prog Tryz.f3 Rows.hardlinkGroupsMatchesSpecRow.domain false) (Rows.hardlinkGroupsMatchesSpecSpec.post enc Tryz.prog Tryz.f3 false true false false) := by
  refine returnsInHanded_of_change_sized (C := Tryz.checked) own started (by kernel_rfl) Tryz.func3
    (ChangeSpec.witness6 (enc := enc) (C := Tryz.checked) false ⟨#[], #[.agg #[.slice none 0 0]], []⟩ 8 (by kernel_rfl) (by kernel_rfl) (by kernel_rfl) (by kernel_rfl)) ?_
  intro W base args ds gs before hval0 hW _ hsz0 _
  have hsz : (DataW.weightsEach Tryz.prog (Tryz.f3.params.toList ++ Rows.hardlinkGroupsMatchesSpecSpec.plain.varTypes Tryz.prog) (ds ++ gs)).all (· ≤ reachBytes) = true := hsz0
  clear hsz0
  have hval : ∀ (j : Nat) t v, Tryz.f3.params[j]? = some t → args[j]? = some v → Value.okWide Tryz.prog W .any base t v := hval0
  have hW' := hW
  obtain ⟨p, q, hA0, hV, rfl, _, _⟩ := hW
  have hA : DataW.TrodAll enc Tryz.prog W 0 (fun _ => true) true Tryz.f3.params.toList args.toList ds p := hA0
  rw [Tryz.params3] at hA hval hsz
  clear hA0 hval0
  obtain ⟨v0, t0, d0, e0, p0, q0, ar0, rfl, rfl, h0, r0⟩ := trodAll_cons hA
  obtain ⟨rfl, rfl, rfl⟩ := trodAll_nil r0
  obtain rfl : args = #[v0] := by cases args; simp_all
  clear ar0
  obtain ⟨rfl, rfl⟩ := trodVars_none hV
  obtain ⟨w0, rfl, _⟩ := okWide_struct tree_under (hval 0 24 v0 rfl rfl)
  have k0 := h0
  obtain ⟨fuel0, f0⟩ := h0
  have hw0 : Held Tryz.prog 24 d0 := fun n hn => by
    have := List.all_eq_true.1 hsz _ (DataW.weights_mem_each (j := 0) (t := 24) rfl rfl n hn)
    simpa using this
  obtain ⟨a0, c0, u0, hxz0, hS0⟩ := tree_of f0 hw0
  obtain rfl : w0 = #[.slice a0 u0.length c0] := by cases w0; simp [Value.cells] at hxz0; simp [hxz0]
  clear hxz0
  try simp only [List.append_nil] at hW'
  have hlt : ∀ x ∈ p0 ++ ([]), x.block < W.heap.size := fun x hx => hW'.lt x (by first | exact hx | simpa using hx)
  have fin : ∀ W', Below W.heap.size W W' → Rows.hardlinkGroupsMatchesSpecSpec.post enc Tryz.checked.prog Tryz.f3 false true false false W #[.agg #[.slice a0 u0.length c0]] (.bool true) W' := by
    intro W' hnx
    refine ⟨_, _, _, [] ++ [], p0 ++ ([]), [], hW', ?_, ?_, rfl, hnx.frame _, fun h => by cases h⟩
    · exact trodAll_mk1 (shut_bool Tryz.underlying4 true)
    · exact trodAll_cons_mk (Below.trod laidOut (by kernel_rfl) (of_decide_eq_true (by kernel_rfl)) k0 hnx (fun x hx => hlt x (by simp [hx]))) (trodAll_mk0)
  refine (lawGroups_any a0 c0 u0 W hS0).mono fun e W' ⟨he, hnx⟩ => ?_
  subst he
  exact ⟨_, rfl, fin W' hnx⟩

theorem holds : Rows.HardlinkGroupsMatchesSpecSaid :=
  OpenClaim.holds_of_wide 3 Tryz.f3 rfl rfl rfl rfl rfl rfl rfl ⟨rfl, rfl, rfl, rfl, rfl⟩ rfl rfl rfl rfl rfl (by kernel_rfl) Tryz.func3 (by kernel_rfl)
    (of_decide_eq_true (by kernel_rfl)) (by unfold Func.isWrapper; first | (rw [if_pos (by decide +kernel)]; kernel_rfl) | (rw [if_neg (by decide +kernel)]; exact ⟨rfl, rfl⟩))
    (fun os started H enc _ => lifted os started H enc)

end Go.Proofs.YteomlacohddecaaGreat.rowHardlinkGroupsMatchesSpec
