/- glob.matchBytes and glob.Match at every two strings: the bytes match, or the fault. Condition: the strings are of at most the model's longest length. -/
import Derived.Test.YtoeiaffkedkepaaGlobAll
import Derived.Test.YtoeiaffkedkepaaGlobBytes
import Derived.Test.YtoeiaffkedkepaaFault
import Derived.BigQuiet
namespace Go.Proofs.Ytoeiaffkedkepaa
open Go.RowKit

theorem byte_at (s : ByteArray) (i : Nat) (h : i < s.size) : s.data.toList[i]'(by simpa using h) = s[i] := by
  rw [Array.getElem_toList]; rfl
theorem bytes1_any (p : ByteArray) (i n : Nat) (w : World) (hi : i < p.data.toList.length) (hc : w.cell? ⟨n, 0, none⟩ = some (.string p)) (hp : p.size ≤ maxLen) :
    Calls Try.prog 11 #[.int .i64 i, .pointer (some ⟨n, 0, none⟩)] w fun e w' => e = .returned (.bool (starB (p.data.toList[i]))) ∧ Below w.heap.size w w' := by
  have hi' : i < p.size := by simpa using hi
  rw [byte_at p i hi']
  unfold maxLen at hp
  go_enter Try.func11, Try.ntmps11
  go_wp2
  go_ret
  refine ⟨ret_bool ?_, Below.refl _ _⟩
  exact eq_u8 _ 42 (by decide)
theorem eg_bytes1 : ∀ args w, (callFunc 11 args).run Try.prog w = .ok (.enter 11 args) w := enters_of Try.func11 (by kernel_rfl) rfl

set_option maxHeartbeats 800000 in
theorem bytes2_any (p s : ByteArray) (i j n k : Nat) (w : World) (hi : i < p.data.toList.length) (hj : j < s.data.toList.length) (hc : w.cell? ⟨n, 0, none⟩ = some (.string p)) (hd : w.cell? ⟨k, 0, none⟩ = some (.string s)) (hp : p.size ≤ maxLen) (hs : s.size ≤ maxLen) :
    Calls Try.prog 12 #[.int .i64 i, .int .i64 j, .pointer (some ⟨n, 0, none⟩), .pointer (some ⟨k, 0, none⟩)] w fun e w' => e = .returned (.bool (fitB (p.data.toList[i]) (s.data.toList[j]))) ∧ Below w.heap.size w w' := by
  have hi' : i < p.size := by simpa using hi
  have hj' : j < s.size := by simpa using hj
  rw [byte_at p i hi', byte_at s j hj']
  have h63 := eq_u8 p[i] 63 (by decide)
  have hss := eq_u8s p[i] s[j]
  unfold maxLen at hp hs
  unfold fitB
  cases h : p[i] == 63 with
  | true =>
    rw [show (UInt8.ofNat 63) = 63 from rfl, h] at h63
    have hz : ((p[i].toNat : Int) == 63) = true := h63
    clear h63 h hss
    go_enter Try.func12, Try.ntmps12
    go_wp2
    go_quiet (fail)
    go_wp2
    go_ret
    exact ⟨rfl, below_drewN (Below.refl _ _) _⟩
  | false =>
    rw [show (UInt8.ofNat 63) = 63 from rfl, h] at h63
    have hz : ((p[i].toNat : Int) == 63) = false := h63
    clear h63 h
    have HS := Lib.hid hss
    clear hss
    go_enter Try.func12, Try.ntmps12
    go_wp2
    go_quiet (fail)
    go_wp2
    go_ret
    exact ⟨ret_bool (by rw [HS.out, Bool.false_or]), below_drewN (Below.refl _ _) _⟩
theorem eg_bytes2 : ∀ args w, (callFunc 12 args).run Try.prog w = .ok (.enter 12 args) w := enters_of Try.func12 (by kernel_rfl) rfl

set_option maxHeartbeats 800000 in
theorem matchBytes_any (p s : ByteArray) (w : World) (hp : p.size ≤ 2147483648) (hs : s.size ≤ 2147483648) :
    Calls Try.prog 10 #[.string p, .string s] w fun e w' => e = .returned (.bool (mat p s)) ∧ Below w.heap.size w w' := by
  have hp2 : p.size ≤ maxLen := by unfold maxLen; omega
  have hs2 : s.size ≤ maxLen := by unfold maxLen; omega
  have B0 : Below w.heap.size w ((w.alloc (.cells #[.string p] 9)).alloc (.cells #[.string s] 9)) := ((Below.refl _ _).alloc (Nat.le_refl _) _).alloc (by simp) _
  have G0 := (One.new w (.string p) 9).alloc (.cells #[.string s] 9)
  have G1 := (One.new (w.alloc (.cells #[.string p] 9)) (.string s) 9).at_ (n' := w.heap.size + 1) (by simp)
  have H := matchAll_any starB fitB p.data.toList s.data.toList 11 12 ⟨w.heap.size, 0, none⟩ ⟨w.heap.size + 1, 0, none⟩ eg_bytes1 eg_bytes2
    ((w.alloc (.cells #[.string p] 9)).alloc (.cells #[.string s] 9)) (by simpa using hp) (by simpa using hs)
    (fun W i h hb => bytes1_any p i _ W h ((G0.below hb G0.lt).c0) hp2)
    (fun W i j h h' hb => bytes2_any p s i j _ _ W h h' ((G0.below hb G0.lt).c0) ((G1.below hb G1.lt).c0) hp2 hs2)
  rw [show p.data.toList.length = p.size from by simp, show s.data.toList.length = s.size from by simp] at H
  have HH := Lib.hid H
  clear H G0 G1 hp2 hs2
  go_enter Try.func10, Try.ntmps10
  go_wp2_with fail
  refine HH.out.mono ?_
  rintro e w' ⟨rfl, hb⟩
  go_wp2
  go_ret
  exact ⟨rfl, B0.trans (hb.mono (by simp; omega))⟩

/-- What glob.Match answers. -/
def matF (p s : ByteArray) : Int × Int := if 100 < p.size then (2, 0) else if 100 < s.size then (2, 1) else (0, 0)
def matV (p s : ByteArray) : Value := .tuple #[.bool (decide ((matF p s).1 = 0) && mat p s), faultV (matF p s).1 (matF p s).2]

set_option maxHeartbeats 800000 in
theorem match_any (p s : ByteArray) (w : World) (hp : p.size ≤ maxLen) (hs : s.size ≤ maxLen) :
    Calls Try.prog 6 #[.string p, .string s] w fun e w' => e = .returned (matV p s) ∧ Below w.heap.size w w' := by
  unfold maxLen at hp hs
  by_cases h1 : 100 < p.size
  · have HV := Lib.hid (show matV p s = .tuple #[.bool false, .agg #[.int .i64 2, .int .i64 0]] by unfold matV matF; rw [if_pos h1]; rfl)
    have h1z : (100 : Int) < (p.size : Int) := by omega
    go_enter Try.func6, Try.ntmps6
    go_wp2
    refine bodyPost_ret (v := .tuple #[.bool false, .agg #[.int .i64 2, .int .i64 0]]) (by simp [results, Try.results6, go_sem]) rfl ⟨by rw [HV.out], ?_⟩
    repeat (first | exact Below.refl _ _ | refine Below.setCell ?_ (by simp) _ | refine Below.alloc ?_ (by simp) _ | refine Below.drew ?_)
  · by_cases h2 : 100 < s.size
    · have HV := Lib.hid (show matV p s = .tuple #[.bool false, .agg #[.int .i64 2, .int .i64 1]] by unfold matV matF; rw [if_neg h1, if_pos h2]; rfl)
      have h1z : ¬ (100 : Int) < (p.size : Int) := by omega
      have h2z : (100 : Int) < (s.size : Int) := by omega
      go_enter Try.func6, Try.ntmps6
      go_wp2
      refine bodyPost_ret (v := .tuple #[.bool false, .agg #[.int .i64 2, .int .i64 1]]) (by simp [results, Try.results6, go_sem]) rfl ⟨by rw [HV.out], ?_⟩
      repeat (first | exact Below.refl _ _ | refine Below.setCell ?_ (by simp) _ | refine Below.alloc ?_ (by simp) _ | refine Below.drew ?_)
    · have HV := Lib.hid (show matV p s = .tuple #[.bool (mat p s), .agg #[.int .i64 0, .int .i64 0]] by unfold matV matF; rw [if_neg h1, if_neg h2]; rfl)
      have h1z : ¬ (100 : Int) < (p.size : Int) := by omega
      have h2z : ¬ (100 : Int) < (s.size : Int) := by omega
      have HM := Lib.hid (fun W => matchBytes_any p s W (by omega) (by omega))
      go_enter Try.func6, Try.ntmps6
      go_wp2_with fail
      refine (HM.out _).mono ?_
      rintro e w1 ⟨rfl, hb⟩
      have B1 : Below w.heap.size w w1 := ((Below.refl _ _).alloc (Nat.le_refl _) _).trans (hb.mono (by simp))
      have X1 := ((FBox.new w 0 0 23).below hb (by simp))
      obtain ⟨l1, a0, b0, k0, k1⟩ := X1
      go_wp2
      refine bodyPost_ret (v := .tuple #[.bool (mat p s), .agg #[.int .i64 0, .int .i64 0]]) (by simp [results, Try.results6, go_sem, a0, b0, l1]) rfl ⟨by rw [HV.out], ?_⟩
      repeat (first | exact B1 | refine Below.setCell ?_ (by first | omega | (simp; done) | (simp; omega)) _ | refine Below.alloc ?_ (by first | omega | (simp; done) | (simp; omega)) _ | refine Below.drew ?_)

end Go.Proofs.Ytoeiaffkedkepaa
