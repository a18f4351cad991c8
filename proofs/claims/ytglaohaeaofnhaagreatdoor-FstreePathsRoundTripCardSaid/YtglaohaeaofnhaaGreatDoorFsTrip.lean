/- Plain facts for the round trip: where each path leads, how many paths lead to an inode. No program. -/
import Derived.Test.YtglaohaeaofnhaaGreatDoorFsAnc
import Derived.Test.YtglaohaeaofnhaaGreatDoorFsAllP
import Derived.Test.YtglaohaeaofnhaaGreatDoorFsEmpty
namespace Go.Proofs.YtglaohaeaofnhaaGreatDoor
open Go.RowKit

theorem visits_empty : visits emptyT 0 = [([], 0)] := rfl
theorem one_path {w : World} {B : Nat} {v : Value} {P : List ByteArray} (ha : AscOf P (pathsW (fun _ => true) (visits emptyT 0))) (hs : Strs w B v P) : ∃ a c, v = .slice a 1 c := by
  have h1 : AscOf [bP []] (pathsW (fun _ => true) (visits emptyT 0)) := ⟨List.pairwise_singleton _ _, fun x => Iff.rfl⟩
  obtain rfl : P = [bP []] := ha.same h1
  obtain ⟨a, c, rfl, _⟩ := hs
  exact ⟨a, c, rfl⟩
/-- Where a path leads. -/
def dst (t : Tr) (y : ByteArray) : Nat := (lookF t y).1
def met (t : Tr) (P : List ByteArray) (n : Nat) : Nat := P.countP fun y => decide (dst t y = n)
theorem met_snoc {t : Tr} {P : List ByteArray} {i : Nat} (h : i < P.length) (n : Nat) : met t (P.take (i + 1)) n = met t (P.take i) n + if dst t (P.getD i ByteArray.empty) = n then 1 else 0 := by
  unfold met
  rw [List.take_succ_eq_append_getElem h, List.countP_append, getD_eq h]
  by_cases e : dst t P[i] = n <;> simp [e]
theorem met_le (t : Tr) (P : List ByteArray) (i n : Nat) : met t (P.take i) n ≤ P.length := by
  unfold met
  have h1 : (P.take i).countP (fun y => decide (dst t y = n)) ≤ (P.take i).length := List.countP_le_length
  rw [List.length_take] at h1
  omega
theorem short_nodup {l : List ByteArray} {y : ByteArray} (hn : l.Nodup) (h : ∀ x ∈ l, x = y) : l.length ≤ 1 := by
  match l, hn, h with
  | [], _, _ => simp
  | [_], _, _ => simp
  | a :: b :: r, hn, h =>
    have h1 := h a (by simp)
    have h2 := h b (by simp)
    unfold List.Nodup at hn
    rw [List.pairwise_cons] at hn
    exact absurd (h1.trans h2.symm) (hn.1 b (by simp))
/-- The paths of a valid tree, and where they lead. -/
structure Ways (t : Tr) (P : List ByteArray) : Prop where
  rch : ∀ y ∈ P, ∃ xs m, Rch t 0 xs m ∧ y = bP xs ∧ lookF t y = (m, 0, 0)
  free : ∀ n, (nod t n).k = 0 → met t P n = 0
  dir : ∀ n, n < t.length → (nod t n).k = 1 → met t P n = 1
  file : ∀ n, n < t.length → (nod t n).k = 2 → met t P n ≠ 0
theorem ways_of {t : Tr} (hq : (valT t).1 = 0) {P : List ByteArray} (ha : AscOf P (pathsW (fun _ => true) (visits t 0))) : Ways t P := by
  obtain ⟨hd, p4⟩ := valT_ok hq
  have o2 := Pass.ok2 hd (p4.mono (by omega))
  have hr : ∀ y ∈ P, ∃ xs m, Rch t 0 xs m ∧ y = bP xs ∧ lookF t y = (m, 0, 0) := by
    intro y hy
    have hm := (ha.2 y).1 hy
    unfold pathsW at hm
    obtain ⟨p, hp, rfl⟩ := List.mem_map.1 hm
    have h1 : Rch t 0 p.1 p.2 := (mem_visits o2.fin).1 (List.mem_filter.1 hp).1
    exact ⟨p.1, p.2, h1, rfl, look_path hq h1⟩
  have hin : ∀ xs n, Rch t 0 xs n → bP xs ∈ P ∧ dst t (bP xs) = n := by
    intro xs n h1
    refine ⟨(ha.2 _).2 ?_, by unfold dst; rw [look_path hq h1]⟩
    unfold pathsW
    exact List.mem_map.2 ⟨(xs, n), List.mem_filter.2 ⟨(mem_visits o2.fin).2 h1, rfl⟩, rfl⟩
  have hsome : ∀ n, n < t.length → (nod t n).k ≠ 0 → 0 < met t P n := by
    intro n hn hk
    obtain ⟨_, zs, hz⟩ := Pass.from_ hd (p4.mono (by omega)) hn hk
    obtain ⟨h1, h2⟩ := hin zs n hz
    unfold met
    exact List.countP_pos_iff.2 ⟨_, h1, by simpa using h2⟩
  refine ⟨hr, fun n hk => ?_, fun n hn hk => ?_, fun n hn hk => ?_⟩
  · unfold met
    rw [List.countP_eq_zero]
    intro y hy
    obtain ⟨xs, m, h1, _, h3⟩ := hr y hy
    have h4 := (o2.toOk1.rch h1 o2.ne (by rw [o2.root]; decide)).2.1
    have : dst t y = m := by unfold dst; rw [h3]
    simp only [decide_eq_true_iff, this]
    intro e
    subst e
    exact h4 hk
  · have h1 := hsome n hn (by rw [hk]; decide)
    have h2 : met t P n ≤ 1 := by
      unfold met
      rw [List.countP_eq_length_filter]
      have hnd : (P.filter fun y => decide (dst t y = n)).Nodup := by
        have hP : P.Nodup := by
          unfold List.Nodup
          exact List.Pairwise.imp (fun h => ltS_ne h) ha.1
        exact hP.filter _
      obtain ⟨_, zs, hz⟩ := Pass.from_ hd (p4.mono (by omega)) hn (by rw [hk]; decide)
      refine short_nodup (y := bP zs) hnd fun y hy => ?_
      obtain ⟨hy1, hy2⟩ := List.mem_filter.1 hy
      obtain ⟨xs, m, g1, g2, g3⟩ := hr y hy1
      have hm : m = n := by
        have : dst t y = m := by unfold dst; rw [g3]
        rw [← this]; simpa using hy2
      subst hm
      rw [g2, o2.uniq g1 hk hz]
    omega
  · have := hsome n hn (by rw [hk]; decide)
    omega
/-- What the inner loop has found. -/
theorem any_snoc {Q : List ByteArray} {k : Nat} (h : k < Q.length) (y : ByteArray) : (Q.take (k + 1)).any (fun z => decide (z = y)) = ((Q.take k).any (fun z => decide (z = y)) || decide (Q.getD k ByteArray.empty = y)) := by
  rw [List.take_succ_eq_append_getElem h, List.any_append, getD_eq h]
  simp

end Go.Proofs.YtglaohaeaofnhaaGreatDoor
