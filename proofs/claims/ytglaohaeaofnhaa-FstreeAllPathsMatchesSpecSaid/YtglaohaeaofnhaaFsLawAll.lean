/- The law FstreeAllPathsMatchesSpec returns true at every tree. Conditions: the tree's cells lie in memory as they read. -/
import Derived.Test.YtglaohaeaofnhaaFsPathsOf
import Derived.Test.YtglaohaeaofnhaaFsRefPaths
import Derived.Test.YtglaohaeaofnhaaFsVTree
namespace Go.Proofs.Ytglaohaeaofnhaa
open Go.RowKit

theorem PathsPost.bad {t : Tr} {f : Int × Int} {want : Nat → Bool} {w : World} {e : Ending} {w' : World} (h : PathsPost t f want w e w') (hf : f.1 ≠ 0) : e = .returned (.tuple #[.slice none 0 0, .agg #[.int .i64 f.1, .int .i64 f.2]]) ∧ Below w.heap.size w w' := by
  rcases h with ⟨_, h1, h2⟩ | ⟨h1, _⟩
  · exact ⟨h1, h2⟩
  · exact absurd (by rw [h1]) hf
theorem PathsPost.good {t : Tr} {f : Int × Int} {want : Nat → Bool} {w : World} {e : Ending} {w' : World} (h : PathsPost t f want w e w') (hf : f.1 = 0) : ∃ v P, e = .returned (.tuple #[v, .agg #[.int .i64 0, .int .i64 0]]) ∧ AscOf P (pathsW want (visits t 0)) ∧ Strs w' w'.heap.size v P ∧ Below w.heap.size w w' := by
  rcases h with ⟨h1, _⟩ | ⟨_, h1⟩
  · exact absurd hf h1
  · exact h1
theorem AscOf.same {P Q L : List ByteArray} (h1 : AscOf P L) (h2 : AscOf Q L) : P = Q := asc_unique h1.1 h2.1 (fun x => (h1.2 x).trans (h2.2 x).symm)

set_option maxRecDepth 100000 in
set_option maxHeartbeats 1600000 in
theorem lawAll_any (a : Option Addr) (c : Nat) (t : Tr) (w : World) (h : Nods w w.heap.size a c t) :
    Calls Try.prog 5 #[.agg #[.slice a t.length c]] w fun e w' => e = .returned (.bool true) ∧ Below w.heap.size w w' := by
  have C2 := Lib.hid (fun W (hb : Below w.heap.size w W) => vtree_any a c t W (h.up hb))
  have T0 := Lib.hid (One.new w (.slice a t.length c) 24)
  have B0 := Lib.hid ((Below.refl w.heap.size w).alloc (Nat.le_refl _) (.cells #[.slice a t.length c] 24))
  unfold faultV at C2
  by_cases hq : (valT t).1 = 0
  · obtain ⟨hd, p4⟩ := valT_ok hq
    have o2 := Pass.ok2 hd (p4.mono (by omega))
    have C1 := Lib.hid (fun W (hb : Below w.heap.size w W) => (allPaths_any a c t W (h.up hb)).mono fun e w' hp => hp.good hq)
    have C3 := Lib.hid (fun W (hb : Below w.heap.size w W) => refPathsOf_any a c t (-1) W o2.toOk1 o2.from0 (h.up hb))
    have hwt : (fun m : Nat => (m : Int) == -1 || decide ((-1 : Int) < 0)) = fun _ => true := by funext m; simp
    rw [hwt] at C3
    unfold SortPost at C3
    have hz := valT_zero hq
    rw [hz] at C2
    clear hd p4 o2 hwt hz hq h
    generalize pathsW (fun _ => true) (visits t 0) = X at *
    go_enter Try.func5, Try.ntmps5
    go_wp2_with fail
    refine (C1.out _ B0.out).mono ?_
    rintro e W1 ⟨v, P, rfl, ha, hs, b1⟩
    have T1 := Lib.hid ((T0.out.below b1 T0.out.lt).alloc (.cells #[.int .i64 0, .int .i64 0] 26))
    have B1 := Lib.hid ((B0.out.trans (b1.mono B0.out.size)).alloc (Nat.le_trans B0.out.size b1.size) (.cells #[.int .i64 0, .int .i64 0] 26))
    have S1 := Lib.hid (show Strs (W1.alloc (.cells #[.int .i64 0, .int .i64 0] 26)) W1.heap.size v P from hs.below ((Below.refl _ _).alloc (Nat.le_refl _) _))
    have F1 := Lib.hid (FBox.new W1 0 0 26)
    have HA := Lib.hid ha
    have tc := (T0.out.below b1 T0.out.lt).c0
    have tl := (T0.out.below b1 T0.out.lt).lt
    clear b1 ha hs
    go_wp2_with fail
    refine (C2.out _ B1.out).mono ?_
    rintro e W2 ⟨rfl, b2⟩
    have T2 := Lib.hid ((T1.out.below b2 T1.out.lt).alloc (.cells #[.int .i64 0, .int .i64 0] 26))
    have B2 := Lib.hid ((B1.out.trans (b2.mono B1.out.size)).alloc (Nat.le_trans B1.out.size b2.size) (.cells #[.int .i64 0, .int .i64 0] 26))
    have S2 := Lib.hid (show Strs (W2.alloc (.cells #[.int .i64 0, .int .i64 0] 26)) W1.heap.size v P from (S1.out.below (b2.mono (by simp))).below ((Below.refl _ _).alloc (by have := b2.size; simp at this; omega) _))
    obtain ⟨l8, a0, a1, _, _⟩ := F1.out.below b2 F1.out.lt
    have tc2 := (T1.out.below b2 T1.out.lt).c0
    have tl2 := (T1.out.below b2 T1.out.lt).lt
    clear b2 tc tl
    go_wp2_with fail
    refine (C3.out _ B2.out).mono ?_
    rintro e W3 ⟨v3, P3, rfl, ha3, hs3, _, b3⟩
    obtain rfl : P = P3 := HA.out.same ha3
    have B3 := Lib.hid (B2.out.trans (b3.mono B2.out.size))
    have S3 := Lib.hid (S2.out.below (b3.mono (by have := l8; simp at this ⊢; omega)))
    have S4 := Lib.hid hs3
    clear b3 hs3 ha3 tc2 tl2 a0 a1
    go_wp2_with fail
    refine (strsSame_any v v3 P W3 _ _ S3.out S4.out).mono ?_
    rintro e W4 ⟨rfl, q, rfl⟩
    go_wp2
    go_ret
    exact ⟨rfl, below_drewN B3.out q⟩
  · have C1 := Lib.hid (fun W (hb : Below w.heap.size w W) => (allPaths_any a c t W (h.up hb)).mono fun e w' hp => hp.bad hq)
    have hq1 : ((valT t).1 != 0) = true := by simpa using hq
    have hq2 : ((valT t).1 == 0) = false := by simpa using hq
    clear hq h
    generalize (valT t).1 = q at *
    generalize (valT t).2 = r at *
    go_enter Try.func5, Try.ntmps5
    go_wp2_with fail
    refine (C1.out _ B0.out).mono ?_
    rintro e W1 ⟨rfl, b1⟩
    have B1 := Lib.hid ((B0.out.trans (b1.mono B0.out.size)).alloc (Nat.le_trans B0.out.size b1.size) (.cells #[.int .i64 q, .int .i64 r] 26))
    have F1 := Lib.hid (FBox.new W1 q r 26)
    have tc := (T0.out.below b1 T0.out.lt).c0
    have tl := (T0.out.below b1 T0.out.lt).lt
    clear b1
    go_wp2_with fail
    refine (C2.out _ B1.out).mono ?_
    rintro e W2 ⟨rfl, b2⟩
    have B2 := Lib.hid ((B1.out.trans (b2.mono B1.out.size)).alloc (Nat.le_trans B1.out.size b2.size) (.cells #[.int .i64 q, .int .i64 r] 26))
    obtain ⟨l8, a0, a1, _, _⟩ := F1.out.below b2 F1.out.lt
    clear b2 tc tl
    go_wp2
    go_ret
    exact ⟨rfl, B2.out⟩

end Go.Proofs.Ytglaohaeaofnhaa
