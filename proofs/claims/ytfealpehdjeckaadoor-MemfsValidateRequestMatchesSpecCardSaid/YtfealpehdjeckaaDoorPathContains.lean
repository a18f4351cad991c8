/- path.Contains and the reference's HasPrefix, at every two strings resp. slices of strings. Conditions: those of path.Split. -/
import Derived.Test.YtfealpehdjeckaaDoorPathEqual
import Derived.IntWalk
namespace Go.Proofs.YtfealpehdjeckaaDoor
open Go.RowKit

/-- Is xs a prefix of ys? -/
def pre (xs ys : List ByteArray) : Bool := decide (xs.length ≤ ys.length ∧ xs = ys.take xs.length)

theorem Strs.take {w : World} {B n c : Nat} {a : Option Addr} {ys : List ByteArray} (h : Strs w B (.slice a n c) ys) (k : Nat) (hk : k ≤ ys.length) : Strs w B (.slice a k c) (ys.take k) := by
  obtain ⟨a', c', hv, hc, hl, hs, hx⟩ := h
  injection hv with e1 e2 e3
  subst e1; subst e3
  have hlen : (ys.take k).length = k := by simp; omega
  refine ⟨a, c, by rw [hlen], by omega, by omega, fun x hx => hs x (List.mem_of_mem_take hx), fun h0 => ?_⟩
  obtain ⟨b, o, ha, hB, hj⟩ := hx (by omega)
  refine ⟨b, o, ha, hB, fun j hjk => ?_⟩
  rw [hj j (by omega), List.getD_eq_getElem?_getD, List.getD_eq_getElem?_getD, List.getElem?_take_of_lt (by omega)]

theorem compFault_bounds (xs : List ByteArray) : 0 ≤ (compFault xs).2 ∧ (compFault xs).2 ≤ xs.length := by
  unfold compFault
  split
  · simp; omega
  · split
    · simp
    · simp
theorem splitF_bounds (p : ByteArray) : 0 ≤ (splitF p).2 ∧ (splitF p).2 ≤ 101 := by
  unfold splitF
  split
  · simp
  · rename_i hl
    split
    · simp
    · rename_i c r hd
      split
      · split
        · simp
        · have h1 := compFault_bounds (comps r)
          have h2 := comps_len_le r
          have h3 : p.data.toList.length = p.size := by simp
          rw [hd] at h3; simp at h3
          omega
      · simp

theorem splitF_zero {p : ByteArray} (h : (splitF p).1 = 0) : (splitF p).2 = 0 := by
  unfold splitF at *
  split at h
  · cases h
  · rename_i hl
    rw [if_neg hl]
    split at h
    · cases h
    · rename_i c r hd
      split at h
      · rename_i hc
        rw [if_pos hc]
        split at h
        · rename_i hr; rw [if_pos hr]
        · rename_i hr; rw [if_neg hr]; exact (compFault_ok h).2.1
      · cases h

/-- What Contains answers. -/
def contF (a b : ByteArray) : Int × Int := if (splitF a).1 = 0 then (if (splitF b).1 = 0 then (0, 0) else ((splitF b).1, -1 - (splitF b).2)) else splitF a
def contB (a b : ByteArray) : Bool := decide ((splitF a).1 = 0 ∧ (splitF b).1 = 0) && pre (splitL a) (splitL b)
def contV (a b : ByteArray) : Value := .tuple #[.bool (contB a b), .agg #[.int .i64 (contF a b).1, .int .i64 (contF a b).2]]

end Go.Proofs.YtfealpehdjeckaaDoor
