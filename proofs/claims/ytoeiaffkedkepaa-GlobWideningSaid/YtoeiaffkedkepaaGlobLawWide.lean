/- The law GlobWidening returns true at every string and every byte. Condition: the string is of at most two to the 47th bytes. -/
import Derived.Test.YtoeiaffkedkepaaGlobLawSplit
import Derived.Deep.CutRange
import Derived.Deep.RegionWith
import Derived.IntWalk
namespace Go.Proofs.Ytoeiaffkedkepaa
open Go.RowKit

theorem mat_self (s : ByteArray) : mat s s = true := lmB_self _
theorem mat_mark (s : ByteArray) (i : Nat) (h : i < s.size) : mat (s.extract 0 i ++ ⟨#[63]⟩ ++ s.extract (i + 1) s.size) s = true := by
  unfold mat
  rw [ByteArray.data_append, ByteArray.data_append, Array.toList_append, Array.toList_append, List.append_assoc, extract_take, Lib.extract_to_end]
  exact lmB_mark s.data.toList i (by rw [size_of]; exact h)
theorem mat_tail (s : ByteArray) (i : Nat) (h : i < s.size) : mat (s.extract 0 i ++ ⟨#[42]⟩) s = true := by
  unfold mat
  rw [ByteArray.data_append, Array.toList_append, extract_take]
  exact lmB_tail s.data.toList i (by rw [size_of]; exact h)
theorem FBox.drew {w : World} {n : Nat} {c i : Int} (h : FBox w n c i) : FBox w.drew n c i := ⟨h.lt, h.c0, h.c1, h.f0, h.f1⟩

set_option maxHeartbeats 3200000 in
theorem lawWide_any (s : ByteArray) (kz : Int) (w : World) (hs : s.size < 140737488355328) (hk : 0 ≤ kz ∧ kz < 256) :
    Calls Try.prog 5 #[.string s, .int .u8 kz] w fun e w' => e = .returned (.bool true) ∧ Below w.heap.size w w' := by
  have C2 := Lib.hid (fun W => match_one W)
  by_cases h1 : 100 < s.size
  · have h1z : (100 : Int) < (s.size : Int) := by omega
    have C1 := Lib.hid (fun W => match_any s ⟨#[]⟩ W (by unfold maxLen; omega) (by decide))
    have c1 := C1.out
    rw [show matV s ⟨#[]⟩ = .tuple #[.bool false, .agg #[.int .i64 2, .int .i64 0]] from by unfold matV matF; rw [if_pos h1]; rfl] at c1
    clear C1
    have C1 := Lib.hid c1
    clear c1
    go_enter Try.func5, Try.ntmps5
    go_wp2_with fail
    refine (C1.out _).mono ?_
    rintro e w1 ⟨rfl, b1⟩
    have B1 := Lib.hid (b1.alloc b1.size (.cells #[.int .i64 2, .int .i64 0] 23))
    have X1 := Lib.hid (FBox.new w1 2 0 23)
    clear b1
    go_wp2_with fail
    refine (C2.out _).mono ?_
    rintro e w2 ⟨rfl, b2⟩
    have B2 := B1.out.trans (b2.mono B1.out.size)
    obtain ⟨l2, x2, y2, _, _⟩ := X1.out.below b2 X1.out.lt
    clear b2 X1 B1
    go_wp2
    go_ret
    exact ⟨rfl, by repeat (first | exact B2 | refine Below.alloc ?_ (by first | omega | (have := B2.size; simp; omega)) _)⟩
  · have h1z : ¬ (100 : Int) < (s.size : Int) := by omega
    by_cases h0 : s.size = 0
    · obtain rfl : s = ⟨#[]⟩ := empty_of (List.eq_nil_of_length_eq_zero (by rw [size_of]; exact h0))
      have C1 := Lib.hid (fun W => match_short ⟨#[]⟩ ⟨#[]⟩ W (by decide) (by decide))
      go_enter Try.func5, Try.ntmps5
      go_wp2_with fail
      refine (C1.out _).mono ?_
      rintro e w1 ⟨rfl, b1⟩
      have B1 := Lib.hid (b1.alloc b1.size (.cells #[.int .i64 0, .int .i64 0] 23))
      have X1 := Lib.hid (FBox.new w1 0 0 23)
      clear b1
      go_wp2_with fail
      refine (C2.out _).mono ?_
      rintro e w2 ⟨rfl, b2⟩
      have B2 := B1.out.trans (b2.mono B1.out.size)
      obtain ⟨l2, x2, y2, _, _⟩ := X1.out.below b2 X1.out.lt
      clear b2 X1 B1
      go_wp2
      go_ret
      exact ⟨rfl, by repeat (first | exact B2 | refine Below.alloc ?_ (by first | omega | (have := B2.size; simp; omega)) _)⟩
    · have h0z : ((s.size : Int) == 0) = false := by rw [beq_eq_false_iff_ne]; omega
      obtain ⟨k, rfl⟩ := Int.eq_ofNat_of_zero_le hk.1
      have hn : 0 < s.size := by omega
      have hlt := Nat.mod_lt k hn
      have hrem : Int.tmod (k : Int) (s.size : Int) = ((k % s.size : Nat) : Int) := (Int.ofNat_tmod k s.size).symm
      have C1 := Lib.hid (fun W => match_short s s W (by omega) (by omega))
      have c1 := C1.out
      rw [mat_self s] at c1
      clear C1
      have C1 := Lib.hid c1
      clear c1
      generalize k % s.size = i at *
      have C3 := Lib.hid (fun W => match_short (s.extract 0 i ++ ⟨#[63]⟩ ++ s.extract (i + 1) s.size) s W (by rw [ByteArray.size_append, ByteArray.size_append, ByteArray.size_extract, ByteArray.size_extract]; show _ + 1 + _ ≤ 100; omega) (by omega))
      have C4 := Lib.hid (fun W => match_short (s.extract 0 i ++ ⟨#[42]⟩) s W (by rw [ByteArray.size_append, ByteArray.size_extract]; show _ + 1 ≤ 100; omega) (by omega))
      have c3 := C3.out
      rw [mat_mark s i hlt] at c3
      have c4 := C4.out
      rw [mat_tail s i hlt] at c4
      clear C3 C4
      have C3 := Lib.hid c3
      have C4 := Lib.hid c4
      clear c3 c4
      go_enter Try.func5, Try.ntmps5
      go_wp2_with fail
      refine (C1.out _).mono ?_
      rintro e w1 ⟨rfl, b1⟩
      have B1 := Lib.hid (b1.alloc b1.size (.cells #[.int .i64 0, .int .i64 0] 23))
      have X1 := Lib.hid (FBox.new w1 0 0 23)
      clear b1
      go_upto_region 7 with fail
      generalize w1.heap.size = n1 at *
      generalize w1.alloc (.cells #[.int .i64 0, .int .i64 0] 23) = w2 at *
      go_cut [12, 13] from 59 to 72 (fun s12 s13 wx => ∃ A : Nat, s12 = .bool true ∧ s13 = .pointer (some ⟨A, 0, none⟩) ∧ FBox wx A 0 0 ∧ Below w2.heap.size w2 wx)
      case first =>
        have HB2 := Lib.hid ((Below.refl w2.heap.size w2).alloc (Nat.le_refl _) (.cells #[.int .i64 0, .int .i64 0] 23)).drew
        have HF2 := Lib.hid (FBox.new w2 0 0 23).drew
        have hl1 : (i : Int) ≤ (s.size : Int) := by omega
        have hl3 : i ≤ s.size := by omega
        have hl4 : i + 1 ≤ s.size := by omega
        have hl5 : ((i : Int) + 1).toNat = i + 1 := by omega
        have hl6 : 0 ≤ (i : Int) + 1 := by omega
        have hl2 : ((i : Int) + 1) ≤ (s.size : Int) := by omega
        have hl7 : IntKind.i64.wrap ((i : Int) + 1) = (i : Int) + 1 := IntWalk.i64_in _ (by omega)
        have D1 := Lib.hid (C3.out w2.drew)
        have D2 := Lib.hid (C3.out (w2.alloc (.cells #[.int .i64 0, .int .i64 0] 23)).drew)
        clear C3
        go_region_with (go_at_call 6; (first
          | (refine D1.out.mono ?_; rintro e z ⟨rfl, hb9⟩)
          | (refine D2.out.mono ?_; rintro e z ⟨rfl, hb9⟩; obtain ⟨lz, z0, z1, zf0, zf1⟩ := HF2.out.below hb9 HF2.out.lt)))
        all_goals
          go_wp2_with fail
          go_meet
          first
            | exact ⟨z.heap.size, rfl, rfl, FBox.new z 0 0 23, ((Below.refl w2.heap.size w2).drew.trans hb9).alloc hb9.size _⟩
            | exact ⟨w2.heap.size, rfl, rfl, FBox.put ⟨lz, z0, z1, zf0, zf1⟩ 0 0, (HB2.out.trans (hb9.mono HB2.out.size)).setCell (Nat.le_refl _) _ |>.setCell (Nat.le_refl _) _⟩
      case rest =>
        obtain ⟨A, rfl, rfl, FA, bx⟩ := hcut
        obtain ⟨w3, rfl⟩ : ∃ w3 : World, w3 = wc := ⟨_, rfl⟩
        have B3 := Lib.hid (B1.out.trans (bx.mono B1.out.size))
        have X3 := Lib.hid (X1.out.below bx X1.out.lt)
        have FA3 := Lib.hid FA
        clear FA bx B1 X1
        go_wp2_with fail
        refine (C4.out _).mono ?_
        rintro e w4 ⟨rfl, b4⟩
        have B4 := B3.out.trans (b4.mono B3.out.size)
        obtain ⟨l4, x4, y4, _, _⟩ := X3.out.below b4 X3.out.lt
        obtain ⟨l5, x5, y5, _, _⟩ := FA3.out.below b4 FA3.out.lt
        clear b4 X3 B3 FA3
        go_wp2
        go_ret
        exact ⟨rfl, by repeat (first | exact B4 | refine Below.alloc ?_ (by first | omega | (have := B4.size; simp; omega)) _)⟩

end Go.Proofs.Ytoeiaffkedkepaa
