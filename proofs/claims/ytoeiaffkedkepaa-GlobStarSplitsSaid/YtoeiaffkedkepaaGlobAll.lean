/- glob.matchAll at every two functions that say which elements are stars and what fits: it answers whether the elements match the items. Conditions: the two functions answer so in every later world and leave memory below as it was; both lists are shorter than two to the 31st. -/
import Derived.Test.YtoeiaffkedkepaaProg
import Derived.Shelf.Abstract
import Derived.Test.YtoeiaffkedkepaaGlobPlain
namespace Go.Proofs.Ytoeiaffkedkepaa
open Go.RowKit

def zOf : Option Nat → Int
  | none => -1
  | some a => (a : Int)

set_option maxHeartbeats 1600000 in
theorem matchAll_any {α β : Type} (star : α → Bool) (fit : α → β → Bool) (P : List α) (L : List β) (g1 g2 : FuncId) (a1 a2 : Addr) (eg1 : ∀ args w, (callFunc g1 args).run Try.prog w = .ok (.enter g1 args) w) (eg2 : ∀ args w, (callFunc g2 args).run Try.prog w = .ok (.enter g2 args) w) (w : World)
    (hm : P.length ≤ 2147483648) (hn : L.length ≤ 2147483648)
    (h1 : ∀ W (i : Nat) (h : i < P.length), Below w.heap.size w W → Calls Try.prog g1 #[.int .i64 i, .pointer (some a1)] W fun e w' => e = .returned (.bool (star P[i])) ∧ Below W.heap.size W w')
    (h2 : ∀ W (i j : Nat) (h : i < P.length) (h' : j < L.length), Below w.heap.size w W → Calls Try.prog g2 #[.int .i64 i, .int .i64 j, .pointer (some a1), .pointer (some a2)] W fun e w' => e = .returned (.bool (fit P[i] L[j])) ∧ Below W.heap.size W w') :
    Calls Try.prog 13 #[.int .i64 P.length, .int .i64 L.length, .func (.func g1) #[] #[.pointer (some a1)], .func (.func g2) #[] #[.pointer (some a1), .pointer (some a2)]] w fun e w' => e = .returned (.bool (lm star fit P L)) ∧ Below w.heap.size w w' := by
  have H1 := Lib.hid h1
  have H2 := Lib.hid h2
  clear h1 h2
  obtain ⟨m, hpm⟩ : ∃ m, P.length = m := ⟨_, rfl⟩
  obtain ⟨n, hln⟩ : ∃ n, L.length = n := ⟨_, rfl⟩
  rw [hpm] at hm ⊢
  rw [hln] at hn ⊢
  have HM := Lib.hid hpm
  have HL := Lib.hid hln
  clear hpm hln
  go_enter Try.func13, Try.ntmps13
  go_wp2
  go_loopg [9, 10, 11, 12] (mu m n 0 none 0) (fun gg s9 s10 s11 s12 wr => ∃ (i j : Nat) (o : Option Nat) (se : Nat), s9 = .int .i64 i ∧ s10 = .int .i64 j ∧ s11 = .int .i64 (zOf o) ∧ s12 = .int .i64 se ∧ Aside (GI star fit P L i j o se ∧ Below w.heap.size w wr ∧ mu m n i o se ≤ gg))
  case atStart => exact ⟨0, 0, none, 0, rfl, rfl, rfl, rfl, (show _ ∧ _ from ⟨GI.start P L, Below.refl _ _, Nat.le_refl _⟩)⟩
  case round =>
    obtain ⟨i, j, o, se, rfl, rfl, rfl, rfl, A⟩ := hrel
    obtain ⟨G, BW, hmu⟩ := A.out
    clear A
    have hs := BW.size
    have hi : i ≤ m := HM.out ▸ G.hi
    have hj : j ≤ n := HL.out ▸ G.hj
    have G' := Lib.hid G
    clear G
    have MU := Lib.hid hmu
    clear hmu
    have BW' := Lib.hid BW
    clear BW
    by_cases hlt : j < n
    · have hltP : j < L.length := HL.out.symm ▸ hlt
      have HLT := Lib.hid hltP
      clear hltP
      by_cases hil : i < m
      · have hilP : i < P.length := HM.out.symm ▸ hil
        have HIL := Lib.hid hilP
        clear hilP
        have c1 := fun W hb => H1.out W i HIL.out hb
        have c2 := fun W hb => H2.out W i j HIL.out HLT.out hb
        cases hst : star (P[i]'HIL.out) with
        | true =>
          rw [hst] at c1
          have HS := Lib.hid hst
          have C1 := Lib.hid c1
          clear hst c1 c2
          go_wp2_with (go_at_fn g1; refine (C1.out _ BW'.out).mono ?_; rintro e w' ⟨rfl, hb'⟩)
          go_roundg (mu m n (i + 1) (some (i + 1)) j)
          case measure => exact Nat.lt_of_lt_of_le (mu_star hil (fun a ha => (G'.out.seg a ha).1)) MU.out
          case rel =>
            exact ⟨i + 1, j, some (i + 1), j, by go_num, rfl, by unfold zOf; simp, rfl, (show _ ∧ _ from ⟨G'.out.atStar HIL.out HS.out, BW'.out.trans (hb'.mono hs), Nat.le_refl _⟩)⟩
        | false =>
          rw [hst] at c1
          have HS := Lib.hid hst
          have C1 := Lib.hid c1
          clear hst c1
          cases hf : fit (P[i]'HIL.out) (L[j]'HLT.out) with
          | true =>
            rw [hf] at c2
            have HF := Lib.hid hf
            have C2 := Lib.hid c2
            clear hf c2
            go_wp2_with (first | (go_at_fn g1; refine (C1.out _ BW'.out).mono ?_; rintro e w' ⟨rfl, hb1⟩; have BX := Lib.hid (BW'.out.trans (hb1.mono hs)); have hs1 := hb1.size; clear hb1) | (go_at_fn g2; refine (C2.out _ BX.out).mono ?_; rintro e w' ⟨rfl, hb2⟩) | fail)
            go_roundg (mu m n (i + 1) o se)
            case measure => exact Nat.lt_of_lt_of_le (mu_fit hil) MU.out
            case rel =>
              exact ⟨i + 1, j + 1, o, se, by go_num, by go_num, rfl, rfl, (show _ ∧ _ from ⟨G'.out.atFit HIL.out HLT.out HS.out HF.out, BX.out.trans (hb2.mono (by omega)), Nat.le_refl _⟩)⟩
          | false =>
            rw [hf] at c2
            have HF := Lib.hid (show ∀ h : i < P.length, star P[i] = false ∧ fit P[i] (L[j]'HLT.out) = false from fun _ => ⟨HS.out, hf⟩)
            have C2 := Lib.hid c2
            clear hf c2
            cases o with
            | none =>
              unfold zOf
              go_wp2_with (first | (go_at_fn g1; refine (C1.out _ BW'.out).mono ?_; rintro e w' ⟨rfl, hb1⟩; have BX := Lib.hid (BW'.out.trans (hb1.mono hs)); have hs1 := hb1.size; clear hb1) | (go_at_fn g2; refine (C2.out _ BX.out).mono ?_; rintro e w' ⟨rfl, hb2⟩) | fail)
              go_ret
              exact ⟨ret_bool (G'.out.fail HLT.out HF.out).symm, BX.out.trans (hb2.mono (by omega))⟩
            | some a =>
              unfold zOf
              have hse : se + 1 ≤ n ∧ a ≤ m := by have := G'.out.seg a rfl; omega
              go_wp2_with (first | (go_at_fn g1; refine (C1.out _ BW'.out).mono ?_; rintro e w' ⟨rfl, hb1⟩; have BX := Lib.hid (BW'.out.trans (hb1.mono hs)); have hs1 := hb1.size; clear hb1) | (go_at_fn g2; refine (C2.out _ BX.out).mono ?_; rintro e w' ⟨rfl, hb2⟩) | fail)
              go_roundg (mu m n a (some a) (se + 1))
              case measure => exact Nat.lt_of_lt_of_le (mu_back (by omega)) MU.out
              case rel =>
                exact ⟨a, se + 1, some a, se + 1, rfl, by go_num, rfl, by go_num, (show _ ∧ _ from ⟨G'.out.back HLT.out HF.out, BX.out.trans (hb2.mono (by omega)), Nat.le_refl _⟩)⟩
      · have HF := Lib.hid (show ∀ h : i < P.length, star P[i] = false ∧ fit P[i] (L[j]'HLT.out) = false from fun h => absurd (HM.out ▸ h) hil)
        cases o with
        | none =>
          unfold zOf
          go_wp2
          go_ret
          exact ⟨ret_bool (G'.out.fail HLT.out HF.out).symm, BW'.out⟩
        | some a =>
          unfold zOf
          have hse : se + 1 ≤ n ∧ a ≤ m := by have := G'.out.seg a rfl; omega
          go_wp2
          go_roundg (mu m n a (some a) (se + 1))
          case measure => exact Nat.lt_of_lt_of_le (mu_back (by omega)) MU.out
          case rel =>
            exact ⟨a, se + 1, some a, se + 1, rfl, by go_num, rfl, by go_num, (show _ ∧ _ from ⟨G'.out.back HLT.out HF.out, BW'.out, Nat.le_refl _⟩)⟩
    · have HE := Lib.hid (G'.out.end_ (fun h => hlt (HL.out ▸ h)))
      clear G' MU
      go_wp2
      go_loopg [9] m (fun gg s9 wx => ∃ k : Nat, s9 = .int .i64 k ∧ k ≤ m ∧ m - k ≤ gg ∧ Aside (Below w.heap.size w wx ∧ lm star fit P L = lm star fit (P.drop k) []))
      case atStart => exact ⟨i, rfl, hi, by omega, (show _ ∧ _ from ⟨BW'.out, HE.out⟩)⟩
      case round =>
        obtain ⟨k, rfl, hk, hg, A⟩ := hrel
        obtain ⟨BX, hlm⟩ := A.out
        clear A
        have hs2 := BX.size
        have BX' := Lib.hid BX
        have LM := Lib.hid hlm
        clear BX hlm BW' HE
        by_cases hkl : k < m
        · have hklP : k < P.length := HM.out.symm ▸ hkl
          have HKL := Lib.hid hklP
          clear hklP
          have c1 := fun W hb => H1.out W k HKL.out hb
          cases hst : star (P[k]'HKL.out) with
          | true =>
            rw [hst] at c1
            have HS := Lib.hid hst
            have C1 := Lib.hid c1
            clear hst c1
            go_wp2_with (go_at_fn g1; refine (C1.out _ BX'.out).mono ?_; rintro e w' ⟨rfl, hb'⟩)
            go_roundg (m - (k + 1))
            case measure => omega
            case rel =>
              exact ⟨k + 1, by go_num, by omega, by omega, (show _ ∧ _ from ⟨BX'.out.trans (hb'.mono hs2), LM.out.trans (tail_star HKL.out HS.out)⟩)⟩
          | false =>
            rw [hst] at c1
            have HS := Lib.hid hst
            have C1 := Lib.hid c1
            clear hst c1
            go_wp2_with (go_at_fn g1; refine (C1.out _ BX'.out).mono ?_; rintro e w' ⟨rfl, hb'⟩)
            go_ret
            refine ⟨ret_bool ?_, BX'.out.trans (hb'.mono hs2)⟩
            rw [LM.out, tail_stop HKL.out HS.out]
            simp; omega
        · go_wp2
          go_ret
          refine ⟨ret_bool ?_, BX'.out⟩
          rw [LM.out, tail_end (fun h => hkl (HM.out ▸ h))]
          simp; omega

end Go.Proofs.Ytoeiaffkedkepaa
