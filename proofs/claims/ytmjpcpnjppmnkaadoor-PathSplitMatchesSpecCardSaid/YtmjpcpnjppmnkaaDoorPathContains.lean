/- path.Contains and the reference's HasPrefix, at every two strings resp. slices of strings. Conditions: those of path.Split. -/
import Derived.Test.YtmjpcpnjppmnkaaDoorPathEqual
import Derived.IntWalk
namespace Go.Proofs.YtmjpcpnjppmnkaaDoor
open Go.RowKit

/-- Is xs a prefix of ys? -/
def pre (xs ys : List ByteArray) : Bool := decide (xs.length ≤ ys.length ∧ xs = ys.take xs.length)

theorem Strs.take {w : World} {B n c : Nat} {a : Option Addr} {ys : List ByteArray} (h : Strs w B (.slice a n c) ys) (k : Nat) (hk : k ≤ ys.length) : Strs w B (.slice a k c) (ys.take k) := by
  obtain ⟨a', c', hv, hc, hl, hs, hx⟩ := h
  injection hv with e1 e2 e3
  subst e1; subst e3
  have hlen : (ys.take k).length = k := by simp; omega
  refine ⟨a, c, by rw [hlen], by omega, by omega, fun x hx => hs x (List.mem_of_mem_take hx), fun h0 => ?_⟩
  obtain ⟨b, o, ha, hB, hj⟩ := hx (by omega)
  refine ⟨b, o, ha, hB, fun j hjk => ?_⟩
  rw [hj j (by omega), List.getD_eq_getElem?_getD, List.getD_eq_getElem?_getD, List.getElem?_take_of_lt (by omega)]

theorem sEqual_any (v1 v2 : Value) (xs ys : List ByteArray) (w : World) (h1 : Strs w w.heap.size v1 xs) (h2 : Strs w w.heap.size v2 ys) :
    Calls Tryd.prog 24 #[v1, v2] w fun e w' => e = .returned (.bool (decide (xs = ys))) ∧ Below w.heap.size w w' := by
  obtain ⟨a1, c1, rfl, _, hl1, _, hx1⟩ := h1
  obtain ⟨a2, c2, rfl, _, hl2, _, hx2⟩ := h2
  by_cases hnm : xs.length = ys.length
  · by_cases h0 : 0 < xs.length
    · obtain ⟨b1, o1, rfl, hb1, hj1⟩ := hx1 h0
      obtain ⟨b2, o2, rfl, hb2, hj2⟩ := hx2 (by omega)
      refine (Tryd.slices_Equal_string b1 o1 xs.length c1 b2 o2 ys.length c2 xs ys w (Nat.le_refl _) (Nat.le_refl _) (by omega) (by omega) hj1 hj2).mono fun e w' ⟨he, q, hw⟩ => ⟨?_, ?_⟩
      · rw [he, List.take_length, List.take_length]
      · rw [hw]; exact below_drewN (Below.refl _ _) q
    · have e1 : xs = [] := List.eq_nil_of_length_eq_zero (by omega)
      have e2 : ys = [] := List.eq_nil_of_length_eq_zero (by omega)
      subst e1; subst e2
      refine (Tryd.slices_Equal_string_empty a1 a2 c1 0 c2 w (by omega)).mono fun e w' ⟨he, hw⟩ => ⟨he, ?_⟩
      rw [hw]; exact Below.refl _ _
  · refine (Tryd.slices_Equal_string_lens a1 a2 xs.length c1 ys.length c2 w hnm).mono fun e w' ⟨he, hw⟩ => ⟨?_, ?_⟩
    · rw [he, decide_eq_false (fun e => hnm (by rw [e]))]
    · rw [hw]; exact Below.refl _ _

theorem compFault_bounds (xs : List ByteArray) : 0 ≤ (compFault xs).2 ∧ (compFault xs).2 ≤ xs.length := by
  unfold compFault
  split
  · simp; omega
  · split
    · simp
    · simp
theorem splitF_bounds (p : ByteArray) : 0 ≤ (splitF p).2 ∧ (splitF p).2 ≤ 101 := by
  unfold splitF
  split
  · simp
  · rename_i hl
    split
    · simp
    · rename_i c r hd
      split
      · split
        · simp
        · have h1 := compFault_bounds (comps r)
          have h2 := comps_len_le r
          have h3 : p.data.toList.length = p.size := by simp
          rw [hd] at h3; simp at h3
          omega
      · simp

theorem splitF_zero {p : ByteArray} (h : (splitF p).1 = 0) : (splitF p).2 = 0 := by
  unfold splitF at *
  split at h
  · cases h
  · rename_i hl
    rw [if_neg hl]
    split at h
    · cases h
    · rename_i c r hd
      split at h
      · rename_i hc
        rw [if_pos hc]
        split at h
        · rename_i hr; rw [if_pos hr]
        · rename_i hr; rw [if_neg hr]; exact (compFault_ok h).2.1
      · cases h

/-- What Contains answers. -/
def contF (a b : ByteArray) : Int × Int := if (splitF a).1 = 0 then (if (splitF b).1 = 0 then (0, 0) else ((splitF b).1, -1 - (splitF b).2)) else splitF a
def contB (a b : ByteArray) : Bool := decide ((splitF a).1 = 0 ∧ (splitF b).1 = 0) && pre (splitL a) (splitL b)
def contV (a b : ByteArray) : Value := .tuple #[.bool (contB a b), .agg #[.int .i64 (contF a b).1, .int .i64 (contF a b).2]]

set_option maxHeartbeats 400000 in
theorem contains_badA (a b : ByteArray) (w : World) (hg : GM w) (ha : a.size ≤ maxLen) (hbad : (splitF a).1 ≠ 0) :
    Calls Tryd.prog 13 #[.string a, .string b] w fun e w' => e = .returned (contV a b) ∧ Below w.heap.size w w' := by
  have HV := Lib.hid (show contV a b = .tuple #[.bool false, .agg #[.int .i64 (splitF a).1, .int .i64 (splitF a).2]] by
    unfold contV contF contB; rw [if_neg hbad, decide_eq_false (fun h => hbad h.1)]; rfl)
  have hcon := fun W (hb : Below w.heap.size w W) => pathSplit_any a W (hg.below hb) ha
  unfold SplitPost at hcon
  generalize (splitF a).1 = c at *
  generalize (splitF a).2 = i at *
  have hc1 : (c != 0) = true := by simpa using hbad
  have hc2 : (c == 0) = false := by simpa using hbad
  have HC := Lib.hid hcon
  clear hbad hcon
  go_enter Tryd.func13, Tryd.ntmps13
  go_wp2_with fail
  refine (HC.out _ ((Below.refl _ _).alloc (Nat.le_refl _) _)).mono ?_
  rintro e w1 ⟨v, rfl, hS, b1, _⟩
  obtain ⟨l1, g0, g1, f0, f1⟩ := (FBox.new w 0 0 24).below b1 (by simp)
  have B1 : Below w.heap.size w w1 := ((Below.refl _ _).alloc (Nat.le_refl _) _).trans (b1.mono (by simp))
  clear b1 hS
  go_wp2
  go_region
  go_wp2
  refine bodyPost_ret (v := .tuple #[.bool false, .agg #[.int .i64 c, .int .i64 i]]) ?_ rfl ⟨by rw [HV.out], ?_⟩
  · simp [results, Tryd.results13, go_sem, g0, g1, l1]
  · repeat (first | exact B1 | refine Below.setCell ?_ (by simp) _ | refine Below.alloc ?_ (by simp; omega) _ | refine Below.drew ?_)

set_option maxHeartbeats 800000 in
theorem contains_badB (a b : ByteArray) (w : World) (hg : GM w) (ha : a.size ≤ maxLen) (hb : b.size ≤ maxLen) (hok : (splitF a).1 = 0) (hbad : (splitF b).1 ≠ 0) :
    Calls Tryd.prog 13 #[.string a, .string b] w fun e w' => e = .returned (contV a b) ∧ Below w.heap.size w w' := by
  have HV := Lib.hid (show contV a b = .tuple #[.bool false, .agg #[.int .i64 (splitF b).1, .int .i64 (-1 - (splitF b).2)]] by
    unfold contV contF contB; rw [if_pos hok, if_neg hbad, decide_eq_false (fun h => hbad h.2)]; rfl)
  have hcon := fun W (hb : Below w.heap.size w W) => pathSplit_any a W (hg.below hb) ha
  have hcon2 := fun W (hb' : Below w.heap.size w W) => pathSplit_any b W (hg.below hb') hb
  have hib := splitF_bounds b
  unfold SplitPost at hcon hcon2
  rw [hok] at hcon
  generalize (splitF a).2 = i0 at *
  generalize (splitF b).1 = c at *
  generalize (splitF b).2 = i at *
  have hc1 : (c != 0) = true := by simpa using hbad
  have hc2 : (c == 0) = false := by simpa using hbad
  obtain ⟨hi1, hi2⟩ := hib
  have HC := Lib.hid hcon
  have HD := Lib.hid hcon2
  clear hbad hcon hcon2 hok
  go_enter Tryd.func13, Tryd.ntmps13
  go_wp2_with fail
  refine (HC.out _ ((Below.refl _ _).alloc (Nat.le_refl _) _)).mono ?_
  rintro e w1 ⟨v, rfl, hS, b1, _⟩
  have X1 := Lib.hid ((FBox.new w 0 0 24).below b1 (by simp))
  have B1 : Below w.heap.size w w1 := ((Below.refl _ _).alloc (Nat.le_refl _) _).trans (b1.mono (by simp))
  have hz1 := b1.size
  clear b1 hS
  go_wp2_with fail
  refine (HD.out _ (B1.alloc B1.size _)).mono ?_
  rintro e w2 ⟨v2, rfl, hS, b2, _⟩
  obtain ⟨l1, g0, g1, f0, f1⟩ := (X1.out.alloc _).below b2 (by have := X1.out.lt; simp; omega)
  obtain ⟨l2, k0, k1, e0, e1⟩ := (FBox.new w1 0 i0 24).below b2 (by simp)
  have B2 : Below w.heap.size w w2 := (B1.alloc B1.size _).trans (b2.mono (by have := B1.size; simp; omega))
  have hz : w.heap.size < w1.heap.size := X1.out.lt
  have hzn : ¬ w.heap.size = w1.heap.size := by omega
  have hzn2 : ¬ w1.heap.size = w.heap.size := by omega
  clear b2 hS X1
  have hwrap : IntKind.i64.wrap (-1 - i) = -1 - i := IntWalk.i64_in _ (by omega)
  go_wp2
  go_region
  go_wp2
  refine bodyPost_ret (v := .tuple #[.bool false, .agg #[.int .i64 c, .int .i64 (-1 - i)]]) ?_ rfl ⟨by rw [HV.out], ?_⟩
  · simp [results, Tryd.results13, go_sem, g0, g1]
  · repeat (first | exact B2 | refine Below.setCell ?_ (by first | (simp; done) | (simp; omega)) _ | refine Below.alloc ?_ (by first | (simp; done) | (simp; omega)) _ | refine Below.drew ?_)

set_option maxHeartbeats 1000000 in
theorem contains_ok (a b : ByteArray) (w : World) (hg : GM w) (ha : a.size ≤ maxLen) (hb : b.size ≤ maxLen) (hok : (splitF a).1 = 0) (hok2 : (splitF b).1 = 0) :
    Calls Tryd.prog 13 #[.string a, .string b] w fun e w' => e = .returned (contV a b) ∧ Below w.heap.size w w' := by
  have HV := Lib.hid (show contV a b = .tuple #[.bool (pre (splitL a) (splitL b)), .agg #[.int .i64 0, .int .i64 0]] by
    unfold contV contF contB; rw [if_pos hok, if_pos hok2, decide_eq_true ⟨hok, hok2⟩, Bool.true_and])
  have hcon := fun W (hb : Below w.heap.size w W) => pathSplit_any a W (hg.below hb) ha
  have hcon2 := fun W (hb' : Below w.heap.size w W) => pathSplit_any b W (hg.below hb') hb
  unfold SplitPost at hcon hcon2
  rw [hok] at hcon
  rw [hok2] at hcon2
  generalize (splitF a).2 = i0 at *
  generalize (splitF b).2 = i at *
  generalize splitL a = xs at *
  generalize splitL b = ys at *
  have HC := Lib.hid hcon
  have HD := Lib.hid hcon2
  clear hcon hcon2 hok hok2
  go_enter Tryd.func13, Tryd.ntmps13
  go_wp2_with fail
  refine (HC.out _ ((Below.refl _ _).alloc (Nat.le_refl _) _)).mono ?_
  rintro e w1 ⟨v, rfl, hS1, b1, _⟩
  have X1 := Lib.hid ((FBox.new w 0 0 24).below b1 (by simp))
  have B1 : Below w.heap.size w w1 := ((Below.refl _ _).alloc (Nat.le_refl _) _).trans (b1.mono (by simp))
  have hz1 := b1.size
  have H1 := Lib.hid hS1
  clear b1 hS1
  go_wp2_with fail
  refine (HD.out _ (B1.alloc B1.size _)).mono ?_
  rintro e w2 ⟨v2, rfl, hS2, b2, hvb⟩
  have HVB := Lib.hid hvb
  clear hvb
  have X2 := Lib.hid ((X1.out.alloc _).below b2 (by have := X1.out.lt; simp; omega))
  have Y2 := Lib.hid ((FBox.new w1 0 i0 24).below b2 (by simp))
  have B2 : Below w.heap.size w w2 := (B1.alloc B1.size _).trans (b2.mono (by have := B1.size; simp; omega))
  have H1' := Lib.hid ((H1.out.alloc (Nat.le_refl _) _).below (b2.mono (by simp)))
  have H2 := Lib.hid hS2
  have hz : w.heap.size < w1.heap.size := X1.out.lt
  have hz2 : w1.heap.size < w2.heap.size := Y2.out.lt
  obtain ⟨a1, c1, rfl, _, hxl, _, _⟩ := H1'.out
  obtain ⟨a2, c2, rfl, hcap2, hyl, _, _⟩ := hS2
  clear b2 X1 H1
  obtain ⟨l1, g0, g1, f0, f1⟩ := X2.out
  obtain ⟨l2, k0, k1, e0, e1⟩ := Y2.out
  have hzn : ¬ w.heap.size = w1.heap.size := by omega
  have hzn2 : ¬ w1.heap.size = w.heap.size := by omega
  by_cases hle : xs.length ≤ ys.length
  · have hlez : (xs.length : Int) ≤ (ys.length : Int) := by omega
    have hlc : xs.length ≤ c2 := by omega
    have HP := Lib.hid (show pre xs ys = decide (xs = ys.take xs.length) by
      unfold pre; rw [Bool.eq_iff_iff]; simp [hle])
    go_wp2_with fail
    have HA := ((H1'.out.below ((Below.refl _ _).setCell (p := ⟨w1.heap.size, 0, none⟩) (Nat.le_refl _) (.int .i64 0))).below ((Below.refl _ _).setCell (p := ⟨w1.heap.size, 1, none⟩) (Nat.le_refl _) (.int .i64 i))).more (B' := ((w2.setCell ⟨w1.heap.size, 0, none⟩ (.int .i64 0)).setCell ⟨w1.heap.size, 1, none⟩ (.int .i64 i)).heap.size) (by simp; omega)
    have hne : ∀ g, (Value.slice a2 ys.length c2).ownBlock = some g → g ≠ w1.heap.size := fun g hg => by
      have := HVB.out g hg
      simp at this; omega
    have HB := (((H2.out.set2 (p := ⟨w1.heap.size, 0, none⟩) hne (.int .i64 0)).set2 (p := ⟨w1.heap.size, 1, none⟩) hne (.int .i64 i)).take xs.length hle).more (B' := ((w2.setCell ⟨w1.heap.size, 0, none⟩ (.int .i64 0)).setCell ⟨w1.heap.size, 1, none⟩ (.int .i64 i)).heap.size) (by simp)
    refine (sEqual_any _ _ _ _ _ HA HB).mono ?_
    rintro e w3 ⟨rfl, b3⟩
    rw [← HP.out]
    have XX : FBox ((w2.setCell ⟨w1.heap.size, 0, none⟩ (.int .i64 0)).setCell ⟨w1.heap.size, 1, none⟩ (.int .i64 i)) w.heap.size 0 0 := X2.out.below ((((Below.refl (w.heap.size + 1) w2).setCell (p := ⟨w1.heap.size, 0, none⟩) (by simp; omega) _)).setCell (p := ⟨w1.heap.size, 1, none⟩) (by simp; omega) _) (by omega)
    obtain ⟨m1, q0, q1, r0, r1⟩ := XX.below b3 XX.lt
    have B3 : Below w.heap.size w w3 := ((B2.setCell (p := ⟨w1.heap.size, 0, none⟩) (by simp; omega) _).setCell (p := ⟨w1.heap.size, 1, none⟩) (by simp; omega) _).trans (b3.mono (by simp; omega))
    clear b3 HA HB XX g0 g1 f0 f1 k0 k1 e0 e1
    go_wp2
    refine bodyPost_ret (v := .tuple #[.bool (pre xs ys), .agg #[.int .i64 0, .int .i64 0]]) ?_ rfl ⟨by rw [HV.out], ?_⟩
    · simp [results, Tryd.results13, go_sem, q0, q1]
    · repeat (first | exact B3 | refine Below.setCell ?_ (by first | (simp; done) | (simp; omega)) _ | refine Below.alloc ?_ (by first | (simp; done) | (simp; omega)) _ | refine Below.drew ?_)
  · have hlez : ¬ (xs.length : Int) ≤ (ys.length : Int) := by omega
    have HP := Lib.hid (show pre xs ys = false by unfold pre; rw [decide_eq_false]; intro h; exact hle h.1)
    go_wp2
    refine bodyPost_ret (v := .tuple #[.bool false, .agg #[.int .i64 0, .int .i64 0]]) ?_ rfl ⟨by rw [HV.out, HP.out], ?_⟩
    · simp [results, Tryd.results13, go_sem, g0, g1]
    · repeat (first | exact B2 | refine Below.setCell ?_ (by first | (simp; done) | (simp; omega)) _ | refine Below.alloc ?_ (by first | (simp; done) | (simp; omega)) _ | refine Below.drew ?_)

theorem contains_any (a b : ByteArray) (w : World) (hg : GM w) (ha : a.size ≤ maxLen) (hb : b.size ≤ maxLen) :
    Calls Tryd.prog 13 #[.string a, .string b] w fun e w' => e = .returned (contV a b) ∧ Below w.heap.size w w' := by
  by_cases h1 : (splitF a).1 = 0
  · by_cases h2 : (splitF b).1 = 0
    · exact contains_ok a b w hg ha hb h1 h2
    · exact contains_badB a b w hg ha hb h1 h2
  · exact contains_badA a b w hg ha h1

end Go.Proofs.YtmjpcpnjppmnkaaDoor
