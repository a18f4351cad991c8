/- AllPaths at every tree: the fault, or the paths in ascending order. Conditions: the tree's cells lie in memory as they read. -/
import Derived.Test.YtglaohaeaofnhaaGreatDoorFsValid
import Derived.Test.YtglaohaeaofnhaaGreatDoorFsWhere2
namespace Go.Proofs.YtglaohaeaofnhaaGreatDoor
open Go.RowKit

/-- What AllPaths and PathsOf leave: the fault f, or the wanted paths. -/
def PathsPost (t : Tr) (f : Int × Int) (want : Nat → Bool) (w : World) (e : Ending) (w' : World) : Prop :=
  (f.1 ≠ 0 ∧ e = .returned (.tuple #[.slice none 0 0, faultV f.1 f.2]) ∧ Below w.heap.size w w') ∨
  (f = (0, 0) ∧ ∃ v P, e = .returned (.tuple #[v, faultV 0 0]) ∧ AscOf P (pathsW want (visits t 0)) ∧ Strs w' w'.heap.size v P ∧ Below w.heap.size w w')

theorem wantsAll (w : World) : Wants 10 #[] (fun _ => true) w := by
  refine ⟨enters_of Tryz.func10 (by kernel_rfl) rfl, fun W n _ => ?_⟩
  show Calls Tryz.prog 10 #[.int .i64 ((n : Nat) : Int)] W _
  go_enter Tryz.func10, Tryz.ntmps10
  go_wp2
  go_ret
  exact ⟨rfl, rfl⟩
set_option maxRecDepth 100000 in
set_option maxHeartbeats 1600000 in
theorem allPaths_any (a : Option Addr) (c : Nat) (t : Tr) (w : World) (h : Nods w w.heap.size a c t) :
    Calls Tryz.prog 4 #[.agg #[.slice a t.length c]] w (PathsPost t (valT t) (fun _ => true) w) := by
  have C1 := Lib.hid (fun W (hb : Below w.heap.size w W) => validT_any a c t W (h.up hb))
  have T0 := Lib.hid (show One ((w.alloc (.cells #[.slice a t.length c] 24)).alloc (.cells #[.int .i64 0, .int .i64 0] 27)) w.heap.size (.slice a t.length c) from (One.new w _ _).alloc _)
  have F0 := Lib.hid (show FBox ((w.alloc (.cells #[.slice a t.length c] 24)).alloc (.cells #[.int .i64 0, .int .i64 0] 27)) (w.heap.size + 1) 0 0 from (FBox.new (w.alloc _) 0 0 _).at_ (by simp))
  have B0 := Lib.hid (show Below w.heap.size w ((w.alloc (.cells #[.slice a t.length c] 24)).alloc (.cells #[.int .i64 0, .int .i64 0] 27)) from ((Below.refl _ _).alloc (Nat.le_refl _) _).alloc (by first | omega | (simp; done) | (simp; omega)) _)
  by_cases hq : (valT t).1 = 0
  · obtain ⟨hd, p4⟩ := valT_ok hq
    have hz := valT_zero hq
    have C2 := Lib.hid (fun W (hb : Below w.heap.size w W) => pathsWhere_any a c t W hd p4 (h.up hb) _ _ _ (wantsAll W))
    unfold SortPost at C2
    rw [hz] at C1 ⊢
    clear hd p4 hq hz h
    unfold faultV at C1
    go_enter Tryz.func4, Tryz.ntmps4
    go_wp2_with fail
    refine (C1.out _ B0.out).mono ?_
    rintro e W1 ⟨rfl, b1⟩
    have T1 := Lib.hid (T0.out.below b1 T0.out.lt)
    have F1 := Lib.hid (F0.out.below b1 F0.out.lt)
    have B1 := Lib.hid (B0.out.trans (b1.mono B0.out.size))
    have tc := T1.out.c0
    have tl := T1.out.lt
    have hs1 := B1.out.size
    clear b1
    go_wp2_with fail
    refine (C2.out _ (B1.out.alloc hs1 _)).mono ?_
    rintro e W2 ⟨v, P, rfl, ha, hs, hlow, b2⟩
    have F2 := Lib.hid ((F1.out.alloc (.cells #[.int .i64 0, .int .i64 0] 27)).below b2 (by have := F1.out.lt; simp; omega))
    have hfl := F1.out.lt
    have B2 := Lib.hid ((B1.out.alloc hs1 (.cells #[.int .i64 0, .int .i64 0] 27)).trans (b2.mono (by simp; omega)))
    obtain ⟨l9, a0, a1, f0, f1⟩ := F2.out
    have HA := Lib.hid ha
    have HS := Lib.hid (show Strs ((W2.setCell ⟨w.heap.size + 1, 0, none⟩ (.int .i64 0)).setCell ⟨w.heap.size + 1, 1, none⟩ (.int .i64 0)) W2.heap.size v P from
      (hs.setLow hlow (p := ⟨w.heap.size + 1, 0, none⟩) (by simp; omega) _).setLow hlow (p := ⟨w.heap.size + 1, 1, none⟩) (by simp; omega) _)
    clear ha hs hlow b2 tc tl
    go_wp2
    exact bodyPost_ret (v := .tuple #[v, faultV 0 0]) (by simp [results, Tryz.results4, faultV, go_sem, a0, a1]) rfl (.inr ⟨rfl, v, P, rfl, HA.out, by simpa using HS.out, (B2.out.setCell (by first | omega | (simp; done) | (simp; omega)) _).setCell (by first | omega | (simp; done) | (simp; omega)) _⟩)
  · have hq1 : ((valT t).1 != 0) = true := by simpa using hq
    have hq2 : ((valT t).1 == 0) = false := by simpa using hq
    have HQ := Lib.hid hq
    clear h hq
    unfold faultV at C1
    have HR := Lib.hid (show valT t = ((valT t).1, (valT t).2) from rfl)
    rw [HR.out]
    clear HR
    generalize (valT t).1 = q at *
    generalize (valT t).2 = r at *
    go_enter Tryz.func4, Tryz.ntmps4
    go_wp2_with fail
    refine (C1.out _ B0.out).mono ?_
    rintro e W1 ⟨rfl, b1⟩
    have F1 := Lib.hid (F0.out.below b1 F0.out.lt)
    have B1 := Lib.hid (B0.out.trans (b1.mono B0.out.size))
    obtain ⟨l9, a0, a1, f0, f1⟩ := F1.out
    have hs1 := B1.out.size
    clear b1
    go_wp2
    go_region
    go_wp2
    exact bodyPost_ret (v := .tuple #[.slice none 0 0, faultV q r]) (by simp [results, Tryz.results4, faultV, go_sem, a0, a1, l9]) rfl (.inl ⟨HQ.out, rfl, by repeat (first | exact B1.out | refine Below.setCell ?_ (by first | omega | (simp; done) | (simp; omega)) _ | refine Below.alloc ?_ (by first | omega | (simp; done) | (simp; omega)) _ | refine Below.drew ?_)⟩)

theorem PathsPost.bad {t : Tr} {f : Int × Int} {want : Nat → Bool} {w : World} {e : Ending} {w' : World} (h : PathsPost t f want w e w') (hf : f.1 ≠ 0) : e = .returned (.tuple #[.slice none 0 0, .agg #[.int .i64 f.1, .int .i64 f.2]]) ∧ Below w.heap.size w w' := by
  rcases h with ⟨_, h1, h2⟩ | ⟨h1, _⟩
  · exact ⟨h1, h2⟩
  · exact absurd (by rw [h1]) hf
theorem PathsPost.good {t : Tr} {f : Int × Int} {want : Nat → Bool} {w : World} {e : Ending} {w' : World} (h : PathsPost t f want w e w') (hf : f.1 = 0) : ∃ v P, e = .returned (.tuple #[v, .agg #[.int .i64 0, .int .i64 0]]) ∧ AscOf P (pathsW want (visits t 0)) ∧ Strs w' w'.heap.size v P ∧ Below w.heap.size w w' := by
  rcases h with ⟨h1, _⟩ | ⟨_, h1⟩
  · exact absurd hf h1
  · exact h1
theorem AscOf.same {P Q L : List ByteArray} (h1 : AscOf P L) (h2 : AscOf Q L) : P = Q := asc_unique h1.1 h2.1 (fun x => (h1.2 x).trans (h2.2 x).symm)

end Go.Proofs.YtglaohaeaofnhaaGreatDoor
