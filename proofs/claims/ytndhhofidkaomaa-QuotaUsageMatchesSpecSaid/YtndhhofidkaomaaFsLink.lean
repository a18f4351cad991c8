/- The reference's LinkCount: how many entries refer to an inode. Conditions: the tree's inodes are valid by themselves; its cells lie in memory as they read. -/
import Derived.Test.YtndhhofidkaomaaFsRefs

set_option linter.all false
namespace Go.Proofs.Ytndhhofidkaomaa
open Go.RowKit

theorem cnt_step {t : Tr} {i k n q : Nat} {x : ByteArray} {ei : Int} (hk : k < (kids t i).length) (he : (kids t i).getD k D0 = ⟨x, ei⟩) (hq : cntE (upto t i k) n = q) : cntE (upto t i (k + 1)) n = q + if ei = (n : Int) then 1 else 0 := by
  rw [upto_succ hk, cntE_snoc, he, hq]

set_option maxRecDepth 100000 in
set_option maxHeartbeats 3200000 in
theorem linkCount_any (a : Option Addr) (c : Nat) (t : Tr) (n : Nat) (w : World) (h1 : Ok1 t) (h : Nods w w.heap.size a c t) :
    Calls Try.prog 24 #[.agg #[.slice a t.length c], .int .i64 (n : Int)] w fun e w' => e = .returned (.int .i64 (refs t n : Nat)) ∧ Below w.heap.size w w' := by
  have H := Lib.hid h
  have H1 := Lib.hid h1
  have h40 := h1.le
  have hU := Lib.hid (show cntE (upto t 0 0) n = 0 by rw [upto_zero]; rfl)
  have hA := Lib.hid (upto_all t n)
  clear h h1
  have T0 := Lib.hid (One.new w (.slice a t.length c) 24)
  have B0 := Lib.hid ((Below.refl w.heap.size w).alloc (Nat.le_refl _) (.cells #[.slice a t.length c] 24))
  go_enter Try.func24, Try.ntmps24
  go_wp2_with fail
  go_loopg [5, 6, 7] t.length (fun gg s5 s6 _ wr => ∃ i : Nat, i ≤ t.length ∧ t.length - i ≤ gg ∧ s5 = .int .i64 (cntE (upto t i 0) n : Nat) ∧ s6 = .int .i64 i ∧ Aside (Below w.heap.size w wr) ∧ Aside (One wr w.heap.size (.slice a t.length c)))
  case atStart => exact ⟨0, by omega, by omega, by rw [hU.out]; rfl, rfl, B0.out, T0.out⟩
  case round =>
    obtain ⟨i, hi, hg, rfl, rfl, B, T⟩ := hrel
    obtain ⟨w2, rfl⟩ : ∃ w2 : World, w2 = wr := ⟨_, rfl⟩
    clear T0 B0 hU
    have tc := T.out.c0
    have tl := T.out.lt
    by_cases hlt : i < t.length
    · have hltz : (i : Int) < (t.length : Int) := by omega
      have hi0 : (0 : Int) ≤ (i : Int) := Int.natCast_nonneg _
      have hm9 : t.length - (i + 1) < t.length - i := Nat.sub_lt_sub_left hlt (Nat.lt_succ_self i)
      obtain ⟨b, o, ve, vd, va, vx, rfl, hb, hc, hs⟩ := (H.out.below B.out).one hlt
      obtain ⟨ea, ec, rfl, hec, hel, hef, hex⟩ := hs.es
      have h2 := hc.c2
      change (kids t i).length ≤ ec at hec
      change (kids t i).length ≤ 35184372088832 at hel
      change w2.cell? ⟨b, o + i * 8 + 2, none⟩ = some (.slice ea (kids t i).length ec) at h2
      have HEX := Lib.hid (show 0 < (kids t i).length → ∃ b o, ea = some ⟨b, o, none⟩ ∧ b < w.heap.size ∧ ∀ j, j < (kids t i).length →
        w2.cell? ⟨b, o + j * 2, none⟩ = some (.string ((kids t i).getD j D0).n) ∧ w2.cell? ⟨b, o + j * 2 + 1, none⟩ = some (.int .i64 ((kids t i).getD j D0).i) from hex)
      have HCL := Lib.hid (fun k => cnt_le H1.out i k n hi)
      have HUN := Lib.hid (upto_next hlt)
      have HST := Lib.hid (fun (k q : Nat) (x : ByteArray) (ei : Int) => cnt_step (t := t) (i := i) (k := k) (n := n) (q := q) (x := x) (ei := ei))
      clear hc hs hef hex
      generalize hm : (kids t i).length = m at *
      go_wp2_with fail
      go_loopg [5, 7] m (fun gg s5 s7 wq => ∃ k : Nat, k ≤ m ∧ m - k ≤ gg ∧ s5 = .int .i64 (cntE (upto t i k) n : Nat) ∧ s7 = .int .i64 k ∧ Aside (w2 = wq))
      case atStart => exact ⟨0, by omega, by omega, rfl, rfl, rfl⟩
      case round =>
        obtain ⟨k, hk, hg2, rfl, rfl, hw⟩ := hrel
        have hw2 := hw.out
        subst hw2
        clear hw
        by_cases hlk : k < m
        · have hlkz : (k : Int) < (m : Int) := by omega
          have hk0 : (0 : Int) ≤ (k : Int) := Int.natCast_nonneg _
          obtain ⟨be, oe, rfl, hbe, hje⟩ := HEX.out (by omega)
          have g1 := (hje k hlk).2
          have hcb := HCL.out k
          clear hje
          generalize hy : (kids t i).getD k D0 = e at *
          obtain ⟨x, ei⟩ := e
          simp only at g1
          generalize hq : cntE (upto t i k) n = q at *
          have HS := Lib.hid (HST.out k q x ei hlk hy hq)
          clear hy hq
          by_cases he : ei = (n : Int)
          · subst he
            rw [if_pos rfl] at HS
            go_wp2
            go_roundg (m - (k + 1))
            case measure => omega
            case rel => exact ⟨k + 1, by omega, by omega, by rw [HS.out]; go_num, by go_num, rfl⟩
          · have heb : (ei == (n : Int)) = false := by simpa using he
            rw [if_neg he] at HS
            clear he
            go_wp2
            go_roundg (m - (k + 1))
            case measure => omega
            case rel => exact ⟨k + 1, by omega, by omega, by rw [HS.out]; rfl, by go_num, rfl⟩
        · obtain rfl : k = m := by omega
          go_wp2
          go_roundg (t.length - (i + 1))
          case measure => exact Nat.lt_of_lt_of_le hm9 hg
          case rel => exact ⟨i + 1, by omega, by omega, by rw [← HUN.out], by go_num, B.out, T.out⟩
    · obtain rfl : i = t.length := by omega
      go_wp2
      go_ret
      exact ⟨ret_int (by rw [hA.out]), B.out⟩

end Go.Proofs.Ytndhhofidkaomaa
