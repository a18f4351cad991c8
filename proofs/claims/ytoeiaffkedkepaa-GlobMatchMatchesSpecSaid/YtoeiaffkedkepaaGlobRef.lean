/- The reference's StarCount and Match at every string: a number, and whether the pattern matches (by backtracking). Condition: the strings are of at most two to the 47th, and for Match two to the 31st, bytes. -/
import Derived.Test.YtoeiaffkedkepaaGlobBytes
import Derived.Test.YtoeiaffkedkepaaFault
import Derived.BigQuiet
import Derived.WalkSmall
import Derived.Lib.Split
import Derived.Lib.SplitLaws
namespace Go.Proofs.Ytoeiaffkedkepaa
open Go.RowKit

set_option maxHeartbeats 800000 in
theorem starCount_any (p : ByteArray) (w : World) (hp : p.size ≤ 140737488355328) :
    Calls Try.prog 8 #[.string p] w fun e w' => (∃ n : Nat, e = .returned (.int .i64 n)) ∧ w = w' := by
  go_enter Try.func8, Try.ntmps8
  go_wp2
  go_loop [3, 4] (fun s3 s4 => ∃ n k : Nat, k ≤ p.size ∧ n ≤ k ∧ s3 = .int .i64 n ∧ s4 = .int .i64 k) (fun _ s4 => p.size - (intOf s4).toNat)
  case atStart => exact ⟨0, 0, Nat.zero_le _, Nat.le_refl _, rfl, rfl⟩
  case round =>
    obtain ⟨n, k, hk, hn, rfl, rfl⟩ := hrel
    by_cases hlt : k < p.size
    · rcases Nat.eq_zero_or_pos k with rfl | hpos
      · go_wp2
        all_goals
          go_round
          case rel => first | exact ⟨n, 1, by omega, by omega, rfl, by go_num⟩ | exact ⟨n + 1, 1, by omega, by omega, by go_num, by go_num⟩
          case measure => simp [intOf]; omega
      · have hk0 : ((k : Int) == 0) = false := by rw [beq_eq_false_iff_ne]; omega
        have hk1 : IntKind.i64.wrap ((k : Int) - 1) = ((k - 1 : Nat) : Int) := (IntWalk.i64_in _ (by omega)).trans (by omega)
        have hk2 : k - 1 < p.size := by omega
        go_wp2
        all_goals
          go_round
          case rel => first | exact ⟨n, k + 1, by omega, by omega, rfl, by go_num⟩ | exact ⟨n + 1, k + 1, by omega, by omega, by go_num, by go_num⟩
          case measure => simp [intOf]; omega
    · go_wp2
      go_ret
      exact ⟨⟨n, rfl⟩, rfl⟩

theorem empty_of {s : ByteArray} (h : s.data.toList = []) : s = ⟨#[]⟩ := by
  apply ByteArray.ext; simpa using h
theorem size_of {s : ByteArray} : s.data.toList.length = s.size := by simp
theorem first_of {s : ByteArray} {c : UInt8} {r : List UInt8} (h : s.data.toList = c :: r) : 0 < s.size ∧ ∀ h0 : 0 < s.size, s[0] = c := by
  have hl : 0 < s.size := by rw [← size_of, h]; simp
  refine ⟨hl, fun h0 => ?_⟩
  have h1 : s.data.toList[0]? = some c := by rw [h]; rfl
  rw [List.getElem?_eq_getElem (by rw [size_of]; exact h0)] at h1
  have := Option.some.inj h1
  rw [Array.getElem_toList] at this
  exact this
theorem tail_of {s : ByteArray} {c : UInt8} {r : List UInt8} (h : s.data.toList = c :: r) : (s.extract 1 s.size).data.toList = r := by
  rw [Lib.extract_to_end, h]; rfl
theorem notEmpty {s : ByteArray} {c : UInt8} {r : List UInt8} (h : s.data.toList = c :: r) : (s.toList == []) = false := by
  rw [Lib.toList_data, h]; rfl

/-- The string's bytes are d. -/
def Txt (s : ByteArray) (l : List UInt8) : Prop := s.data.toList = l

theorem drewN_one (w : World) (b c : Nat) : (w.drewN b).drewN c = w.drewN (b + c) := by rw [World.drewN_drewN]
theorem drewN_more (w : World) (a b c : Nat) : (w.drewN (a + b)).drewN c = w.drewN (a + (b + c)) := by
  rw [World.drewN_drewN, Nat.add_assoc]

set_option maxHeartbeats 3200000 in
theorem refMatch_any : ∀ (N : Nat) (p s : ByteArray) (w : World), p.size < N → p.size ≤ 2147483648 → s.size ≤ 2147483648 →
    Calls Try.prog 9 #[.string p, .string s] w fun e w' => e = .returned (.bool (mat p s)) ∧ ∃ n, w' = w.drewN n := by
  intro N
  induction N with
  | zero => intro p s w hN; exact absurd hN (Nat.not_lt_zero _)
  | succ N ih =>
    intro p s w hN hp hs
    have IH := Lib.hid ih
    clear ih
    cases hpl : p.data.toList with
    | nil =>
      obtain rfl : p = ⟨#[]⟩ := empty_of hpl
      have HM := Lib.hid (show mat ⟨#[]⟩ s = s.data.toList.isEmpty from rfl)
      cases hsl : s.data.toList with
      | nil =>
        obtain rfl : s = ⟨#[]⟩ := empty_of hsl
        clear hpl hsl IH
        go_enter Try.func9, Try.ntmps9
        go_wp2
        go_ret
        exact ⟨ret_bool HM.out.symm, 0, rfl⟩
      | cons d r =>
        have hne := notEmpty hsl
        have HS := Lib.hid hsl
        clear hpl hsl IH
        go_enter Try.func9, Try.ntmps9
        go_wp2
        go_ret
        exact ⟨ret_bool (by rw [HM.out, HS.out]; rfl), 0, rfl⟩
    | cons c r0 =>
      have hne := notEmpty hpl
      obtain ⟨hp0, hpc⟩ := first_of hpl
      have hpc' := hpc hp0
      by_cases hc : c = 42
      · subst hc
        have hz : ((p[0].toNat : Int) == 42) = true := by rw [hpc']; rfl
        have PL := Lib.hid hpl
        clear hpl hpc hpc'
        go_enter Try.func9, Try.ntmps9
        go_wp2
        go_loopg [0] p.size (fun gg s0 wr => ∃ q r, s0 = .string q ∧ q.size ≤ gg ∧ q.size ≤ p.size ∧ w = wr ∧ Aside (q.data.toList = 42 :: r ∧ mat q s = mat p s))
        case atStart => exact ⟨p, r0, rfl, Nat.le_refl _, Nat.le_refl _, rfl, (show _ ∧ _ from ⟨PL.out, rfl⟩)⟩
        case round =>
        obtain ⟨q, r, rfl, hqg, hqp, rfl, A⟩ := hrel
        obtain ⟨hqr, hmq⟩ := A.out
        clear A hne
        have QR := Lib.hid hqr
        have MQ := Lib.hid hmq
        have hq0 := (first_of hqr).1
        clear hmq PL
        by_cases h2 : ∃ r2, r = 42 :: r2
        · obtain ⟨r2, rfl⟩ := h2
          have ht := tail_of hqr
          have hlen : q.size = r2.length + 2 := by rw [← size_of, hqr]; simp
          have hq1 : 1 < q.size := by omega
          have hq1c : ((q[1].toNat : Int) == 42) = true := by
            have h1 : q.data.toList[1]? = some 42 := by rw [hqr]; rfl
            rw [List.getElem?_eq_getElem (by rw [size_of]; exact hq1)] at h1
            have := Option.some.inj h1
            rw [Array.getElem_toList] at this
            rw [show q[1] = 42 from this]; rfl
          clear hqr hlen
          go_wp2
          go_roundg (q.size - 1)
          case measure => omega
          case rel =>
            refine ⟨_, r2, rfl, by rw [ByteArray.size_extract]; omega, by rw [ByteArray.size_extract]; omega, rfl, (show _ ∧ _ from ⟨ht, ?_⟩)⟩
            rw [← MQ.out]
            unfold mat lmB
            rw [ht, QR.out]
            exact (lm_stars (by rfl) (by rfl) _).symm
        · have hstop : ∀ h1 : 1 < q.size, ((q[1].toNat : Int) == 42) = false := by
            intro h1
            rw [beq_eq_false_iff_ne]; intro h3
            apply h2
            have h4 : q.data.toList[1]? = some q[1] := by rw [List.getElem?_eq_getElem (by rw [size_of]; exact h1), Array.getElem_toList]; rfl
            rw [hqr, List.getElem?_cons_succ] at h4
            cases r with
            | nil => cases h4
            | cons x r2 =>
              have h5 : x = q[1] := Option.some.inj h4
              refine ⟨r2, ?_⟩
              rw [h5]; congr 1
              apply UInt8.toNat_inj.1
              show q[1].toNat = 42
              omega
          clear hqr h2
          by_cases h1 : 1 < q.size
          · have hstop1 := hstop h1
            clear hstop
            go_wp2

            go_loopg [5] (s.size + 1) (fun gg s5 wr => ∃ k : Nat, s5 = .int .i64 k ∧ k ≤ s.size + 1 ∧ s.size + 1 - k ≤ gg ∧ Aside ((∃ n, wr = w.drewN n) ∧ ∀ j, j < k → lmB r (s.data.toList.drop j) = false))
            case atStart => exact ⟨0, rfl, Nat.zero_le _, by omega, (show _ ∧ _ from ⟨⟨0, rfl⟩, fun j hj => absurd hj (Nat.not_lt_zero _)⟩)⟩
            case round =>
              obtain ⟨k, rfl, hk, hg2, A⟩ := hrel
              obtain ⟨⟨n0, rfl⟩, hno⟩ := A.out
              clear A
              have NO := Lib.hid hno
              clear hno
              by_cases hks : k ≤ s.size
              · have hq1 : (q.extract 1 q.size).size < N ∧ (q.extract 1 q.size).size ≤ 2147483648 := by
                  have h := tail_of QR.out
                  have h2 := first_of QR.out
                  have h3 : (q.extract 1 q.size).size = q.size - 1 := by rw [ByteArray.size_extract]; omega
                  omega
                have hs1 : (s.extract k s.size).size ≤ 2147483648 := by rw [ByteArray.size_extract]; omega
                have c1 := fun W => IH.out (q.extract 1 q.size) (s.extract k s.size) W hq1.1 hq1.2 hs1
                have hm : mat (q.extract 1 q.size) (s.extract k s.size) = lmB r (s.data.toList.drop k) := by unfold mat; rw [tail_of QR.out, Lib.extract_to_end]
                clear hq1 hs1
                have l1 : 1 ≤ q.size := hq0
                have l2 : (1 : Int) ≤ (q.size : Int) := by omega
                have l3 : (k : Int) ≤ (s.size : Int) := by omega
                cases hb : lmB r (s.data.toList.drop k) with
                | true =>
                  rw [hm, hb] at c1
                  have C1 := Lib.hid c1
                  have HB := Lib.hid hb
                  clear c1 hm hb
                  go_wp2
                  go_quiet ((go_at_call 9; refine (C1.out _).mono ?_; rintro e _ ⟨rfl, _, rfl⟩; exact ⟨rfl, _, drewN_more _ _ _ _⟩))
                  go_wp2
                  go_ret
                  refine ⟨ret_bool ?_, _, by simp; rfl⟩
                  rw [← MQ.out, eq_comm]
                  unfold mat lmB
                  rw [QR.out]
                  exact (lm_star (by rfl)).2 ⟨k, by rw [size_of]; exact hks, HB.out⟩
                | false =>
                  rw [hm, hb] at c1
                  have C1 := Lib.hid c1
                  have HB := Lib.hid hb
                  clear c1 hm hb
                  go_wp2
                  go_quiet ((go_at_call 9; refine (C1.out _).mono ?_; rintro e _ ⟨rfl, _, rfl⟩; exact ⟨rfl, _, drewN_more _ _ _ _⟩))
                  go_wp2
                  go_roundg (s.size + 1 - (k + 1))
                  case measure => omega
                  case rel =>
                    refine ⟨k + 1, by go_num, by omega, by omega, (show _ ∧ _ from ⟨⟨_, rfl⟩, fun j hj => ?_⟩)⟩
                    by_cases e : j = k
                    · subst e; exact HB.out
                    · exact NO.out j (by omega)
              · have hks2 : ¬ (k : Int) ≤ (s.size : Int) := by omega
                go_wp2
                go_ret
                refine ⟨ret_bool ?_, _, rfl⟩
                rw [← MQ.out, eq_comm, Bool.eq_false_iff]
                intro h
                unfold mat lmB at h
                rw [QR.out] at h
                obtain ⟨j, hj, h2⟩ := (lm_star (by rfl)).1 h
                have h3 := NO.out j (by rw [size_of] at hj; omega)
                unfold lmB at h3
                rw [h3] at h2; cases h2

          · clear hstop
            go_wp2

            go_loopg [5] (s.size + 1) (fun gg s5 wr => ∃ k : Nat, s5 = .int .i64 k ∧ k ≤ s.size + 1 ∧ s.size + 1 - k ≤ gg ∧ Aside ((∃ n, wr = w.drewN n) ∧ ∀ j, j < k → lmB r (s.data.toList.drop j) = false))
            case atStart => exact ⟨0, rfl, Nat.zero_le _, by omega, (show _ ∧ _ from ⟨⟨0, rfl⟩, fun j hj => absurd hj (Nat.not_lt_zero _)⟩)⟩
            case round =>
              obtain ⟨k, rfl, hk, hg2, A⟩ := hrel
              obtain ⟨⟨n0, rfl⟩, hno⟩ := A.out
              clear A
              have NO := Lib.hid hno
              clear hno
              by_cases hks : k ≤ s.size
              · have hq1 : (q.extract 1 q.size).size < N ∧ (q.extract 1 q.size).size ≤ 2147483648 := by
                  have h := tail_of QR.out
                  have h2 := first_of QR.out
                  have h3 : (q.extract 1 q.size).size = q.size - 1 := by rw [ByteArray.size_extract]; omega
                  omega
                have hs1 : (s.extract k s.size).size ≤ 2147483648 := by rw [ByteArray.size_extract]; omega
                have c1 := fun W => IH.out (q.extract 1 q.size) (s.extract k s.size) W hq1.1 hq1.2 hs1
                have hm : mat (q.extract 1 q.size) (s.extract k s.size) = lmB r (s.data.toList.drop k) := by unfold mat; rw [tail_of QR.out, Lib.extract_to_end]
                clear hq1 hs1
                have l1 : 1 ≤ q.size := hq0
                have l2 : (1 : Int) ≤ (q.size : Int) := by omega
                have l3 : (k : Int) ≤ (s.size : Int) := by omega
                cases hb : lmB r (s.data.toList.drop k) with
                | true =>
                  rw [hm, hb] at c1
                  have C1 := Lib.hid c1
                  have HB := Lib.hid hb
                  clear c1 hm hb
                  go_wp2
                  go_quiet ((go_at_call 9; refine (C1.out _).mono ?_; rintro e _ ⟨rfl, _, rfl⟩; exact ⟨rfl, _, drewN_more _ _ _ _⟩))
                  go_wp2
                  go_ret
                  refine ⟨ret_bool ?_, _, by simp; rfl⟩
                  rw [← MQ.out, eq_comm]
                  unfold mat lmB
                  rw [QR.out]
                  exact (lm_star (by rfl)).2 ⟨k, by rw [size_of]; exact hks, HB.out⟩
                | false =>
                  rw [hm, hb] at c1
                  have C1 := Lib.hid c1
                  have HB := Lib.hid hb
                  clear c1 hm hb
                  go_wp2
                  go_quiet ((go_at_call 9; refine (C1.out _).mono ?_; rintro e _ ⟨rfl, _, rfl⟩; exact ⟨rfl, _, drewN_more _ _ _ _⟩))
                  go_wp2
                  go_roundg (s.size + 1 - (k + 1))
                  case measure => omega
                  case rel =>
                    refine ⟨k + 1, by go_num, by omega, by omega, (show _ ∧ _ from ⟨⟨_, rfl⟩, fun j hj => ?_⟩)⟩
                    by_cases e : j = k
                    · subst e; exact HB.out
                    · exact NO.out j (by omega)
              · have hks2 : ¬ (k : Int) ≤ (s.size : Int) := by omega
                go_wp2
                go_ret
                refine ⟨ret_bool ?_, _, rfl⟩
                rw [← MQ.out, eq_comm, Bool.eq_false_iff]
                intro h
                unfold mat lmB at h
                rw [QR.out] at h
                obtain ⟨j, hj, h2⟩ := (lm_star (by rfl)).1 h
                have h3 := NO.out j (by rw [size_of] at hj; omega)
                unfold lmB at h3
                rw [h3] at h2; cases h2

      · have hst : starB c = false := by unfold starB; simpa using hc
        have hz : ((p[0].toNat : Int) == 42) = false := by
          rw [hpc', beq_eq_false_iff_ne]; intro h; apply hc; apply UInt8.toNat_inj.1; show c.toNat = 42; omega
        cases hsl : s.data.toList with
        | nil =>
          obtain rfl : s = ⟨#[]⟩ := empty_of hsl
          have HM := Lib.hid (show mat p ⟨#[]⟩ = false by unfold mat lmB; rw [hpl]; exact lm_none hst)
          clear hpl hsl IH hpc hpc' hst hc
          go_enter Try.func9, Try.ntmps9
          go_wp2
          go_quiet (fail)
          go_wp2
          go_ret
          exact ⟨ret_bool HM.out.symm, _, rfl⟩
        | cons d r =>
          have hne2 := notEmpty hsl
          obtain ⟨hs0, hsc⟩ := first_of hsl
          have hsc' := hsc hs0
          have hM : mat p s = (fitB c d && lmB r0 r) := by unfold mat lmB; rw [hpl, hsl]; exact lm_one hst
          have hq1 : (p.extract 1 p.size).size < N ∧ (p.extract 1 p.size).size ≤ 2147483648 := by
            have h3 : (p.extract 1 p.size).size = p.size - 1 := by rw [ByteArray.size_extract]; omega
            omega
          have hs1 : (s.extract 1 s.size).size ≤ 2147483648 := by rw [ByteArray.size_extract]; omega
          have c1 := fun W => IH.out (p.extract 1 p.size) (s.extract 1 s.size) W hq1.1 hq1.2 hs1
          rw [show mat (p.extract 1 p.size) (s.extract 1 s.size) = lmB r0 r from by unfold mat; rw [tail_of hpl, tail_of hsl]] at c1
          have hQ : ((p[0].toNat : Int) == 63) = (c == 63) := by rw [hpc']; exact eq_u8 c 63 (by decide)
          have hE : ((p[0].toNat : Int) == (s[0].toNat : Int)) = (c == d) := by rw [hpc', hsc']; exact eq_u8s c d
          have C1 := Lib.hid c1
          have l1 : 1 ≤ p.size := hp0
          have l2 : (1 : Int) ≤ (p.size : Int) := by omega
          have l3 : 1 ≤ s.size := hs0
          have l4 : (1 : Int) ≤ (s.size : Int) := by omega
          have HM := Lib.hid hM
          clear hpl hsl hpc hpc' hsc hsc' hst hc c1 hM hq1 hs1 IH
          cases h63 : c == 63 with
          | true =>
            rw [h63] at hQ
            have HF := Lib.hid (show fitB c d = true by unfold fitB; rw [h63]; rfl)
            clear hE h63
            go_enter Try.func9, Try.ntmps9
            go_wp2
            go_quiet ((go_at_call 9; refine (C1.out _).mono ?_; rintro e _ ⟨rfl, _, rfl⟩; exact ⟨rfl, _, drewN_one _ _ _⟩))
            go_wp2
            go_ret
            exact ⟨ret_bool (by rw [HM.out, HF.out, Bool.true_and]), _, rfl⟩
          | false =>
            rw [h63] at hQ
            cases hcd : c == d with
            | true =>
              rw [hcd] at hE
              have HF := Lib.hid (show fitB c d = true by unfold fitB; rw [h63, hcd]; rfl)
              clear h63 hcd
              go_enter Try.func9, Try.ntmps9
              go_wp2
              go_quiet ((go_at_call 9; refine (C1.out _).mono ?_; rintro e _ ⟨rfl, _, rfl⟩; exact ⟨rfl, _, drewN_one _ _ _⟩))
              go_wp2
              go_ret
              exact ⟨ret_bool (by rw [HM.out, HF.out, Bool.true_and]), _, rfl⟩
            | false =>
              rw [hcd] at hE
              have HF := Lib.hid (show fitB c d = false by unfold fitB; rw [h63, hcd]; rfl)
              clear h63 hcd
              go_enter Try.func9, Try.ntmps9
              go_wp2
              go_quiet (fail)
              go_wp2
              go_ret
              exact ⟨ret_bool (by rw [HM.out, HF.out, Bool.false_and]), _, rfl⟩

end Go.Proofs.Ytoeiaffkedkepaa
