/- The law GlobStarSplits returns true at every three strings. Condition: the strings are of at most two to the 47th bytes. -/
import Derived.Test.YtoeiaffkedkepaaGlobLawMatch
import Derived.RegionTactic
namespace Go.Proofs.Ytoeiaffkedkepaa
open Go.RowKit

theorem matV_short {p s : ByteArray} (hp : p.size ≤ 100) (hs : s.size ≤ 100) : matV p s = .tuple #[.bool (mat p s), .agg #[.int .i64 0, .int .i64 0]] := by
  unfold matV matF; rw [if_neg (by omega), if_neg (by omega)]; rfl
theorem match_short (p s : ByteArray) (w : World) (hp : p.size ≤ 100) (hs : s.size ≤ 100) :
    Calls Try.prog 6 #[.string p, .string s] w fun e w' => e = .returned (.tuple #[.bool (mat p s), .agg #[.int .i64 0, .int .i64 0]]) ∧ Below w.heap.size w w' := by
  have h := match_any p s w (by unfold maxLen; omega) (by unfold maxLen; omega)
  rw [matV_short hp hs] at h
  exact h
theorem extract_take {s : ByteArray} {i : Nat} : (s.extract 0 i).data.toList = s.data.toList.take i := by
  rw [Lib.extract_data]; simp
theorem mat_between (p q s : ByteArray) : mat (p ++ ⟨#[42]⟩ ++ q) s = true ↔ ∃ i j, i ≤ j ∧ j ≤ s.size ∧ mat p (s.extract 0 i) = true ∧ mat q (s.extract j s.size) = true := by
  unfold mat lmB
  rw [ByteArray.data_append, ByteArray.data_append, Array.toList_append, Array.toList_append, List.append_assoc, show ((⟨#[42]⟩ : ByteArray).data.toList ++ q.data.toList) = 42 :: q.data.toList from rfl, lm_between (by rfl), size_of]
  simp only [extract_take, Lib.extract_to_end]

set_option maxHeartbeats 3200000 in
theorem lawSplits_any (p q s : ByteArray) (w : World) (hp : p.size < 140737488355328) (hq : q.size < 140737488355328) (hs : s.size < 140737488355328) :
    Calls Try.prog 4 #[.string p, .string q, .string s] w fun e w' => e = .returned (.bool true) ∧ Below w.heap.size w w' := by
  by_cases h1 : 100 < p.size + q.size + 1
  · have h1z : (100 : Int) < (p.size : Int) + (q.size : Int) + 1 := by omega
    go_enter Try.func4, Try.ntmps4
    go_wp2
    go_ret
    exact ⟨rfl, Below.refl _ _⟩
  · have h1z : ¬ (100 : Int) < (p.size : Int) + (q.size : Int) + 1 := by omega
    by_cases h2 : 30 < s.size
    · have h2z : (30 : Int) < (s.size : Int) := by omega
      go_enter Try.func4, Try.ntmps4
      go_wp2
      go_ret
      exact ⟨rfl, Below.refl _ _⟩
    · have h2z : ¬ (30 : Int) < (s.size : Int) := by omega
      have C1 := Lib.hid (fun W => match_short (p ++ ⟨#[42]⟩ ++ q) s W (by rw [ByteArray.size_append, ByteArray.size_append]; show p.size + 1 + q.size ≤ 100; omega) (by omega))
      have CP := Lib.hid (fun i W => match_short p (s.extract 0 i) W (by omega) (by rw [ByteArray.size_extract]; omega))
      have CQ := Lib.hid (fun j W => match_short q (s.extract j s.size) W (by omega) (by rw [ByteArray.size_extract]; omega))
      have C2 := Lib.hid (fun W => match_one W)
      have HB := Lib.hid (mat_between p q s)
      generalize mat (p ++ ⟨#[42]⟩ ++ q) s = M at *
      generalize hA : (fun i => mat p (s.extract 0 i)) = A at *
      generalize hB : (fun j => mat q (s.extract j s.size)) = B at *
      have hA' : ∀ i, mat p (s.extract 0 i) = A i := fun i => by rw [← hA]
      have hB' : ∀ j, mat q (s.extract j s.size) = B j := fun j => by rw [← hB]
      simp only [hA', hB'] at CP CQ HB
      clear hA hB hA' hB'
      have hs8 : s.size ≤ 30 := by omega
      go_enter Try.func4, Try.ntmps4
      go_wp2_with fail
      refine (C1.out _).mono ?_
      rintro e w1 ⟨rfl, b1⟩
      have B1 := Lib.hid (b1.alloc b1.size (.cells #[.int .i64 0, .int .i64 0] 23))
      have X1 := Lib.hid (FBox.new w1 0 0 23)
      have hs1 := b1.size
      clear b1 C1
      go_wp2_with fail
      generalize w1.heap.size = n1 at *
      go_loopg [9, 10] (s.size + 1) (fun gg s9 s10 wr => ∃ (i : Nat) (c : Bool), s9 = .bool c ∧ s10 = .int .i64 i ∧ i ≤ s.size + 1 ∧ s.size + 1 - i ≤ gg ∧ Aside ((c = true ↔ ∃ i' j', i' < i ∧ i' ≤ j' ∧ j' ≤ s.size ∧ A i' = true ∧ B j' = true) ∧ Below w.heap.size w wr ∧ FBox wr n1 0 0))
      case atStart => exact ⟨0, false, rfl, rfl, Nat.zero_le _, by omega, (show _ ∧ _ from ⟨⟨fun h => (by cases h), fun ⟨_, _, h, _⟩ => absurd h (Nat.not_lt_zero _)⟩, B1.out, X1.out⟩)⟩
      case round =>
        obtain ⟨i, c, rfl, rfl, hi, hg, A1⟩ := hrel
        obtain ⟨hc, BW, XW⟩ := A1.out
        have HC := Lib.hid hc
        have BW' := Lib.hid BW
        have XW' := Lib.hid XW
        clear A1 hc BW XW B1 X1
        obtain ⟨w2, rfl⟩ : ∃ w2 : World, w2 = wr := ⟨_, rfl⟩
        by_cases hin : i ≤ s.size
        · have hinz : (i : Int) ≤ (s.size : Int) := by omega
          go_wp2_with fail
          refine (CP.out i _).mono ?_
          rintro e w3 ⟨rfl, b3⟩
          have B3 := Lib.hid ((BW'.out.trans (b3.mono BW'.out.size)).alloc (by have := BW'.out.size; have := b3.size; omega) (.cells #[.int .i64 0, .int .i64 0] 23))
          have X3 := Lib.hid ((XW'.out.below b3 XW'.out.lt).alloc (.cells #[.int .i64 0, .int .i64 0] 23))
          clear b3 BW' XW'
          cases hai : A i with
          | true =>
            go_wp2_with fail
            generalize w3.alloc (.cells #[.int .i64 0, .int .i64 0] 23) = w4 at *
            go_loopg [9, 13] (s.size + 1) (fun gg2 s9 s13 wx => ∃ (j : Nat) (d : Bool), s9 = .bool d ∧ s13 = .int .i64 j ∧ i ≤ j ∧ j ≤ s.size + 1 ∧ s.size + 1 - j ≤ gg2 ∧ Aside ((d = true ↔ (c = true ∨ ∃ j', i ≤ j' ∧ j' < j ∧ B j' = true)) ∧ Below w.heap.size w wx ∧ FBox wx n1 0 0))
            case atStart => exact ⟨i, c, rfl, rfl, Nat.le_refl _, by omega, by omega, (show _ ∧ _ from ⟨⟨fun h => .inl h, fun h => h.elim id (fun ⟨_, h1, h2, _⟩ => by omega)⟩, B3.out, X3.out⟩)⟩
            case round =>
              obtain ⟨j, d, rfl, rfl, hij, hj, hg2, A2⟩ := hrel
              obtain ⟨hd, BX, XX⟩ := A2.out
              have HD := Lib.hid hd
              have BX' := Lib.hid BX
              have XX' := Lib.hid XX
              clear A2 hd BX XX B3 X3
              obtain ⟨w5, rfl⟩ : ∃ w5 : World, w5 = wr := ⟨_, rfl⟩
              by_cases hjn : j ≤ s.size
              · have hjnz : (j : Int) ≤ (s.size : Int) := by omega
                go_wp2_with fail
                refine (CQ.out j _).mono ?_
                rintro e w6 ⟨rfl, b6⟩
                have B6 := Lib.hid ((BX'.out.trans (b6.mono BX'.out.size)).alloc (by have := BX'.out.size; have := b6.size; omega) (.cells #[.int .i64 0, .int .i64 0] 23))
                have X6 := Lib.hid ((XX'.out.below b6 XX'.out.lt).alloc (.cells #[.int .i64 0, .int .i64 0] 23))
                clear b6 BX' XX'
                have HN := Lib.hid (show (d || B j) = true ↔ (c = true ∨ ∃ j', i ≤ j' ∧ j' < j + 1 ∧ B j' = true) from by
                  rw [Bool.or_eq_true, HD.out]
                  constructor
                  · rintro ((h | ⟨j', h1, h2, h3⟩) | h)
                    · exact .inl h
                    · exact .inr ⟨j', h1, by omega, h3⟩
                    · exact .inr ⟨j, hij, by omega, h⟩
                  · rintro (h | ⟨j', h1, h2, h3⟩)
                    · exact .inl (.inl h)
                    · by_cases e : j' = j
                      · subst e; exact .inr h3
                      · exact .inl (.inr ⟨j', h1, by omega, h3⟩))
                generalize B j = bj at *
                cases d with
                | true =>
                  go_wp2
                  go_roundg (s.size + 1 - (j + 1))
                  case measure => omega
                  case rel => exact ⟨j + 1, true, rfl, by go_num, by omega, by omega, by omega, (show _ ∧ _ from ⟨HN.out, B6.out, X6.out⟩)⟩
                | false =>
                  go_wp2
                  go_roundg (s.size + 1 - (j + 1))
                  case measure => omega
                  case rel => exact ⟨j + 1, bj, rfl, by go_num, by omega, by omega, by omega, (show _ ∧ _ from ⟨HN.out, B6.out, X6.out⟩)⟩
              · have hjnz : ¬ (j : Int) ≤ (s.size : Int) := by omega
                go_wp2
                go_roundg (s.size + 1 - (i + 1))
                case measure => omega
                case rel =>
                  refine ⟨i + 1, d, rfl, by go_num, by omega, by omega, (show _ ∧ _ from ⟨?_, BX'.out, XX'.out⟩)⟩
                  rw [HD.out, HC.out]
                  constructor
                  · rintro (⟨i', j', h1, h2, h3, h4⟩ | ⟨j', h1, h2, h3⟩)
                    · exact ⟨i', j', by omega, h2, h3, h4⟩
                    · exact ⟨i, j', by omega, h1, by omega, hai, h3⟩
                  · rintro ⟨i', j', h1, h2, h3, h4, h5⟩
                    by_cases e : i' = i
                    · subst e; exact .inr ⟨j', h2, by omega, h5⟩
                    · exact .inl ⟨i', j', by omega, h2, h3, h4, h5⟩
          | false =>
            have HA := Lib.hid hai
            clear hai
            go_wp2_with fail
            generalize w3.alloc (.cells #[.int .i64 0, .int .i64 0] 23) = w4 at *
            go_loopg [9, 13] (s.size + 1) (fun gg2 s9 s13 wx => s9 = .bool c ∧ s13 = .int .i64 i ∧ w4 = wx)
            case atStart => exact ⟨rfl, rfl, rfl⟩
            case round =>
              obtain ⟨rfl, rfl, rfl⟩ := hrel
              go_wp2
              go_roundg (s.size + 1 - (i + 1))
              case measure => omega
              case rel =>
                refine ⟨i + 1, c, rfl, by go_num, by omega, by omega, (show _ ∧ _ from ⟨?_, B3.out, X3.out⟩)⟩
                rw [HC.out]
                constructor
                · rintro ⟨i', j', h1, h2, h3, h4⟩
                  exact ⟨i', j', by omega, h2, h3, h4⟩
                · rintro ⟨i', j', h1, h2, h3, h4, h5⟩
                  by_cases e : i' = i
                  · subst e; rw [HA.out] at h4; cases h4
                  · exact ⟨i', j', by omega, h2, h3, h4, h5⟩
        · have hinz : ¬ (i : Int) ≤ (s.size : Int) := by omega
          have hcM : c = M := by
            rw [Bool.eq_iff_iff, HB.out, HC.out]
            constructor
            · rintro ⟨i', j', h1, h2, h3, h4⟩; exact ⟨i', j', h2, h3, h4⟩
            · rintro ⟨i', j', h2, h3, h4⟩; exact ⟨i', j', by omega, h2, h3, h4⟩
          subst hcM
          clear HB HC CP CQ
          go_wp2_with fail
          refine (C2.out _).mono ?_
          rintro e w9 ⟨rfl, b9⟩
          have B9 := (BW'.out.trans (b9.mono BW'.out.size))
          obtain ⟨l9, x9, y9, _, _⟩ := XW'.out.below b9 XW'.out.lt
          clear b9 BW' XW'
          go_wp2
          go_ret
          exact ⟨ret_bool (by simp), by repeat (first | exact B9 | refine Below.alloc ?_ (by first | omega | (have := B9.size; simp; omega)) _)⟩

end Go.Proofs.Ytoeiaffkedkepaa
