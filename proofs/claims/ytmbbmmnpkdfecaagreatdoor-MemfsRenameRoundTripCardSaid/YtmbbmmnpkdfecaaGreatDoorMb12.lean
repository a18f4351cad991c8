/- Package memfs and what it calls, at this seat's translation.
   Condition: as each theorem states; this text: MfWo. -/
import Derived.Test.YtmbbmmnpkdfecaaGreatDoorMb8

set_option linter.all false

/- withoutUsed of package memfs: the request without the values of the fields that its kind uses, and whether the kind is known. Conditions: the request's slices lie in memory as they read. -/

set_option linter.all false
namespace Go.Proofs.YtmbbmmnpkdfecaaGreatDoor
open Go.RowKit

/-! ## withoutUsed -/
abbrev R0 : Rq := ⟨0, 0, ByteArray.empty, ByteArray.empty, 0, 0, [], [], A0⟩
def knownB (k : Int) : Bool := decide (1 ≤ k ∧ k ≤ 14)
/-- The request without the values of the fields that its kind uses. -/
def wo (r : Rq) : Rq :=
  if r.k = 3 then { r with off := 0, sz := 0 }
  else if r.k = 4 then { r with off := 0, d := [] }
  else if r.k = 5 ∨ r.k = 13 ∨ r.k = 14 then { r with sz := 0 }
  else if r.k = 9 ∨ r.k = 10 then { r with t := ByteArray.empty }
  else if r.k = 11 then { r with ac := [] }
  else if r.k = 12 then { r with a := A0 }
  else if 1 ≤ r.k ∧ r.k ≤ 14 then r else R0
def WoPost (r : Rq) (w : World) (e : Ending) (w' : World) : Prop :=
  ∃ vd va, e = .returned (.tuple #[rqV (wo r) vd va, .bool (knownB r.k)]) ∧ RqS w' w'.heap.size vd va (wo r) ∧ Below w.heap.size w w'
theorem i64_zero : i64 0 := by unfold i64; omega

theorem emptyB : (⟨#[]⟩ : ByteArray) = ByteArray.empty := rfl
set_option maxRecDepth 100000 in
set_option maxHeartbeats 4000000 in
theorem withoutUsed_any (r : Rq) (vd va : Value) (w : World) (h : RqS w w.heap.size vd va r) :
    Calls Tryz.prog 115 #[rqV r vd va] w (WoPost r w) := by
  have hsd : ∃ a n c, vd = .slice a n c := by obtain ⟨a, c, h, _⟩ := h.d; exact ⟨_, _, _, h⟩
  have hsa : ∃ a n c, va = .slice a n c := by obtain ⟨a, c, h, _⟩ := h.ac; exact ⟨_, _, _, h⟩
  obtain ⟨da, dn, dc, rfl⟩ := hsd
  obtain ⟨aa, an', ac', rfl⟩ := hsa
  obtain ⟨k, u, p, t, off, sz, d, ac, an, av⟩ := r
  have H := Lib.hid h
  clear h
  unfold rqV
  simp only at *
  by_cases h1 : k = 1
  · subst h1
    have hw : wo ⟨1, u, p, t, off, sz, d, ac, ⟨an, av⟩⟩ = ⟨1, u, p, t, off, sz, d, ac, ⟨an, av⟩⟩ := by simp [wo]
    unfold WoPost
    rw [hw, show knownB 1 = true from rfl]
    go_enter Tryz.func115, Tryz.ntmps115
    go_wp2
    refine bodyPost_ret (v := .tuple #[rqV ⟨1, u, p, t, off, sz, d, ac, ⟨an, av⟩⟩ (.slice da dn dc) (.slice aa an' ac'), .bool true]) (by simp [results, Tryz.results115, rqV, go_sem, emptyB]) rfl ?_
    refine (fun hb => ⟨_, _, rfl, (fun H2 => ?_) (H.out.up hb), hb⟩) ?_
    · repeat (first | exact Below.refl _ _ | refine Below.setCell ?_ (by first | omega | (simp; done) | (simp; omega)) _ | refine Below.alloc ?_ (by first | omega | (simp; done) | (simp; omega)) _)
    · exact ⟨H2.d, H2.ac, (show i64 1 by unfold i64; omega), H2.u, H2.off, H2.sz, H2.p, H2.t, H2.a⟩
  by_cases h2 : k = 2
  · subst h2
    have hw : wo ⟨2, u, p, t, off, sz, d, ac, ⟨an, av⟩⟩ = ⟨2, u, p, t, off, sz, d, ac, ⟨an, av⟩⟩ := by simp [wo]
    unfold WoPost
    rw [hw, show knownB 2 = true from rfl]
    go_enter Tryz.func115, Tryz.ntmps115
    go_wp2
    refine bodyPost_ret (v := .tuple #[rqV ⟨2, u, p, t, off, sz, d, ac, ⟨an, av⟩⟩ (.slice da dn dc) (.slice aa an' ac'), .bool true]) (by simp [results, Tryz.results115, rqV, go_sem, emptyB]) rfl ?_
    refine (fun hb => ⟨_, _, rfl, (fun H2 => ?_) (H.out.up hb), hb⟩) ?_
    · repeat (first | exact Below.refl _ _ | refine Below.setCell ?_ (by first | omega | (simp; done) | (simp; omega)) _ | refine Below.alloc ?_ (by first | omega | (simp; done) | (simp; omega)) _)
    · exact ⟨H2.d, H2.ac, (show i64 2 by unfold i64; omega), H2.u, H2.off, H2.sz, H2.p, H2.t, H2.a⟩
  by_cases h3 : k = 3
  · subst h3
    have hw : wo ⟨3, u, p, t, off, sz, d, ac, ⟨an, av⟩⟩ = ⟨3, u, p, t, 0, 0, d, ac, ⟨an, av⟩⟩ := by simp [wo]
    unfold WoPost
    rw [hw, show knownB 3 = true from rfl]
    go_enter Tryz.func115, Tryz.ntmps115
    go_wp2
    refine bodyPost_ret (v := .tuple #[rqV ⟨3, u, p, t, 0, 0, d, ac, ⟨an, av⟩⟩ (.slice da dn dc) (.slice aa an' ac'), .bool true]) (by simp [results, Tryz.results115, rqV, go_sem, emptyB]) rfl ?_
    refine (fun hb => ⟨_, _, rfl, (fun H2 => ?_) (H.out.up hb), hb⟩) ?_
    · repeat (first | exact Below.refl _ _ | refine Below.setCell ?_ (by first | omega | (simp; done) | (simp; omega)) _ | refine Below.alloc ?_ (by first | omega | (simp; done) | (simp; omega)) _)
    · exact ⟨H2.d, H2.ac, (show i64 3 by unfold i64; omega), H2.u, i64_zero, i64_zero, H2.p, H2.t, H2.a⟩
  by_cases h4 : k = 4
  · subst h4
    have hw : wo ⟨4, u, p, t, off, sz, d, ac, ⟨an, av⟩⟩ = ⟨4, u, p, t, 0, sz, [], ac, ⟨an, av⟩⟩ := by simp [wo]
    unfold WoPost
    rw [hw, show knownB 4 = true from rfl]
    go_enter Tryz.func115, Tryz.ntmps115
    go_wp2
    refine bodyPost_ret (v := .tuple #[rqV ⟨4, u, p, t, 0, sz, [], ac, ⟨an, av⟩⟩ (.slice none 0 0) (.slice aa an' ac'), .bool true]) (by simp [results, Tryz.results115, rqV, go_sem, emptyB]) rfl ?_
    refine (fun hb => ⟨_, _, rfl, (fun H2 => ?_) (H.out.up hb), hb⟩) ?_
    · repeat (first | exact Below.refl _ _ | refine Below.setCell ?_ (by first | omega | (simp; done) | (simp; omega)) _ | refine Below.alloc ?_ (by first | omega | (simp; done) | (simp; omega)) _)
    · exact ⟨Byts.none_ _ _, H2.ac, (show i64 4 by unfold i64; omega), H2.u, i64_zero, H2.sz, H2.p, H2.t, H2.a⟩
  by_cases h5 : k = 5
  · subst h5
    have hw : wo ⟨5, u, p, t, off, sz, d, ac, ⟨an, av⟩⟩ = ⟨5, u, p, t, off, 0, d, ac, ⟨an, av⟩⟩ := by simp [wo]
    unfold WoPost
    rw [hw, show knownB 5 = true from rfl]
    go_enter Tryz.func115, Tryz.ntmps115
    go_wp2
    refine bodyPost_ret (v := .tuple #[rqV ⟨5, u, p, t, off, 0, d, ac, ⟨an, av⟩⟩ (.slice da dn dc) (.slice aa an' ac'), .bool true]) (by simp [results, Tryz.results115, rqV, go_sem, emptyB]) rfl ?_
    refine (fun hb => ⟨_, _, rfl, (fun H2 => ?_) (H.out.up hb), hb⟩) ?_
    · repeat (first | exact Below.refl _ _ | refine Below.setCell ?_ (by first | omega | (simp; done) | (simp; omega)) _ | refine Below.alloc ?_ (by first | omega | (simp; done) | (simp; omega)) _)
    · exact ⟨H2.d, H2.ac, (show i64 5 by unfold i64; omega), H2.u, H2.off, i64_zero, H2.p, H2.t, H2.a⟩
  by_cases h6 : k = 6
  · subst h6
    have hw : wo ⟨6, u, p, t, off, sz, d, ac, ⟨an, av⟩⟩ = ⟨6, u, p, t, off, sz, d, ac, ⟨an, av⟩⟩ := by simp [wo]
    unfold WoPost
    rw [hw, show knownB 6 = true from rfl]
    go_enter Tryz.func115, Tryz.ntmps115
    go_wp2
    refine bodyPost_ret (v := .tuple #[rqV ⟨6, u, p, t, off, sz, d, ac, ⟨an, av⟩⟩ (.slice da dn dc) (.slice aa an' ac'), .bool true]) (by simp [results, Tryz.results115, rqV, go_sem, emptyB]) rfl ?_
    refine (fun hb => ⟨_, _, rfl, (fun H2 => ?_) (H.out.up hb), hb⟩) ?_
    · repeat (first | exact Below.refl _ _ | refine Below.setCell ?_ (by first | omega | (simp; done) | (simp; omega)) _ | refine Below.alloc ?_ (by first | omega | (simp; done) | (simp; omega)) _)
    · exact ⟨H2.d, H2.ac, (show i64 6 by unfold i64; omega), H2.u, H2.off, H2.sz, H2.p, H2.t, H2.a⟩
  by_cases h7 : k = 7
  · subst h7
    have hw : wo ⟨7, u, p, t, off, sz, d, ac, ⟨an, av⟩⟩ = ⟨7, u, p, t, off, sz, d, ac, ⟨an, av⟩⟩ := by simp [wo]
    unfold WoPost
    rw [hw, show knownB 7 = true from rfl]
    go_enter Tryz.func115, Tryz.ntmps115
    go_wp2
    refine bodyPost_ret (v := .tuple #[rqV ⟨7, u, p, t, off, sz, d, ac, ⟨an, av⟩⟩ (.slice da dn dc) (.slice aa an' ac'), .bool true]) (by simp [results, Tryz.results115, rqV, go_sem, emptyB]) rfl ?_
    refine (fun hb => ⟨_, _, rfl, (fun H2 => ?_) (H.out.up hb), hb⟩) ?_
    · repeat (first | exact Below.refl _ _ | refine Below.setCell ?_ (by first | omega | (simp; done) | (simp; omega)) _ | refine Below.alloc ?_ (by first | omega | (simp; done) | (simp; omega)) _)
    · exact ⟨H2.d, H2.ac, (show i64 7 by unfold i64; omega), H2.u, H2.off, H2.sz, H2.p, H2.t, H2.a⟩
  by_cases h8 : k = 8
  · subst h8
    have hw : wo ⟨8, u, p, t, off, sz, d, ac, ⟨an, av⟩⟩ = ⟨8, u, p, t, off, sz, d, ac, ⟨an, av⟩⟩ := by simp [wo]
    unfold WoPost
    rw [hw, show knownB 8 = true from rfl]
    go_enter Tryz.func115, Tryz.ntmps115
    go_wp2
    refine bodyPost_ret (v := .tuple #[rqV ⟨8, u, p, t, off, sz, d, ac, ⟨an, av⟩⟩ (.slice da dn dc) (.slice aa an' ac'), .bool true]) (by simp [results, Tryz.results115, rqV, go_sem, emptyB]) rfl ?_
    refine (fun hb => ⟨_, _, rfl, (fun H2 => ?_) (H.out.up hb), hb⟩) ?_
    · repeat (first | exact Below.refl _ _ | refine Below.setCell ?_ (by first | omega | (simp; done) | (simp; omega)) _ | refine Below.alloc ?_ (by first | omega | (simp; done) | (simp; omega)) _)
    · exact ⟨H2.d, H2.ac, (show i64 8 by unfold i64; omega), H2.u, H2.off, H2.sz, H2.p, H2.t, H2.a⟩
  by_cases h9 : k = 9
  · subst h9
    have hw : wo ⟨9, u, p, t, off, sz, d, ac, ⟨an, av⟩⟩ = ⟨9, u, p, ByteArray.empty, off, sz, d, ac, ⟨an, av⟩⟩ := by simp [wo]
    unfold WoPost
    rw [hw, show knownB 9 = true from rfl]
    go_enter Tryz.func115, Tryz.ntmps115
    go_wp2
    refine bodyPost_ret (v := .tuple #[rqV ⟨9, u, p, ByteArray.empty, off, sz, d, ac, ⟨an, av⟩⟩ (.slice da dn dc) (.slice aa an' ac'), .bool true]) (by simp [results, Tryz.results115, rqV, go_sem, emptyB]) rfl ?_
    refine (fun hb => ⟨_, _, rfl, (fun H2 => ?_) (H.out.up hb), hb⟩) ?_
    · repeat (first | exact Below.refl _ _ | refine Below.setCell ?_ (by first | omega | (simp; done) | (simp; omega)) _ | refine Below.alloc ?_ (by first | omega | (simp; done) | (simp; omega)) _)
    · exact ⟨H2.d, H2.ac, (show i64 9 by unfold i64; omega), H2.u, H2.off, H2.sz, H2.p, by simp [maxLen], H2.a⟩
  by_cases h10 : k = 10
  · subst h10
    have hw : wo ⟨10, u, p, t, off, sz, d, ac, ⟨an, av⟩⟩ = ⟨10, u, p, ByteArray.empty, off, sz, d, ac, ⟨an, av⟩⟩ := by simp [wo]
    unfold WoPost
    rw [hw, show knownB 10 = true from rfl]
    go_enter Tryz.func115, Tryz.ntmps115
    go_wp2
    refine bodyPost_ret (v := .tuple #[rqV ⟨10, u, p, ByteArray.empty, off, sz, d, ac, ⟨an, av⟩⟩ (.slice da dn dc) (.slice aa an' ac'), .bool true]) (by simp [results, Tryz.results115, rqV, go_sem, emptyB]) rfl ?_
    refine (fun hb => ⟨_, _, rfl, (fun H2 => ?_) (H.out.up hb), hb⟩) ?_
    · repeat (first | exact Below.refl _ _ | refine Below.setCell ?_ (by first | omega | (simp; done) | (simp; omega)) _ | refine Below.alloc ?_ (by first | omega | (simp; done) | (simp; omega)) _)
    · exact ⟨H2.d, H2.ac, (show i64 10 by unfold i64; omega), H2.u, H2.off, H2.sz, H2.p, by simp [maxLen], H2.a⟩
  by_cases h11 : k = 11
  · subst h11
    have hw : wo ⟨11, u, p, t, off, sz, d, ac, ⟨an, av⟩⟩ = ⟨11, u, p, t, off, sz, d, [], ⟨an, av⟩⟩ := by simp [wo]
    unfold WoPost
    rw [hw, show knownB 11 = true from rfl]
    go_enter Tryz.func115, Tryz.ntmps115
    go_wp2
    refine bodyPost_ret (v := .tuple #[rqV ⟨11, u, p, t, off, sz, d, [], ⟨an, av⟩⟩ (.slice da dn dc) (.slice none 0 0), .bool true]) (by simp [results, Tryz.results115, rqV, go_sem, emptyB]) rfl ?_
    refine (fun hb => ⟨_, _, rfl, (fun H2 => ?_) (H.out.up hb), hb⟩) ?_
    · repeat (first | exact Below.refl _ _ | refine Below.setCell ?_ (by first | omega | (simp; done) | (simp; omega)) _ | refine Below.alloc ?_ (by first | omega | (simp; done) | (simp; omega)) _)
    · exact ⟨H2.d, Acls.none_ _ _, (show i64 11 by unfold i64; omega), H2.u, H2.off, H2.sz, H2.p, H2.t, H2.a⟩
  by_cases h12 : k = 12
  · subst h12
    have hw : wo ⟨12, u, p, t, off, sz, d, ac, ⟨an, av⟩⟩ = ⟨12, u, p, t, off, sz, d, ac, A0⟩ := by simp [wo]
    unfold WoPost
    rw [hw, show knownB 12 = true from rfl]
    go_enter Tryz.func115, Tryz.ntmps115
    go_wp2
    refine bodyPost_ret (v := .tuple #[rqV ⟨12, u, p, t, off, sz, d, ac, A0⟩ (.slice da dn dc) (.slice aa an' ac'), .bool true]) (by simp [results, Tryz.results115, rqV, go_sem, emptyB]) rfl ?_
    refine (fun hb => ⟨_, _, rfl, (fun H2 => ?_) (H.out.up hb), hb⟩) ?_
    · repeat (first | exact Below.refl _ _ | refine Below.setCell ?_ (by first | omega | (simp; done) | (simp; omega)) _ | refine Below.alloc ?_ (by first | omega | (simp; done) | (simp; omega)) _)
    · exact ⟨H2.d, H2.ac, (show i64 12 by unfold i64; omega), H2.u, H2.off, H2.sz, H2.p, H2.t, A0_fits⟩
  by_cases h13 : k = 13
  · subst h13
    have hw : wo ⟨13, u, p, t, off, sz, d, ac, ⟨an, av⟩⟩ = ⟨13, u, p, t, off, 0, d, ac, ⟨an, av⟩⟩ := by simp [wo]
    unfold WoPost
    rw [hw, show knownB 13 = true from rfl]
    go_enter Tryz.func115, Tryz.ntmps115
    go_wp2
    refine bodyPost_ret (v := .tuple #[rqV ⟨13, u, p, t, off, 0, d, ac, ⟨an, av⟩⟩ (.slice da dn dc) (.slice aa an' ac'), .bool true]) (by simp [results, Tryz.results115, rqV, go_sem, emptyB]) rfl ?_
    refine (fun hb => ⟨_, _, rfl, (fun H2 => ?_) (H.out.up hb), hb⟩) ?_
    · repeat (first | exact Below.refl _ _ | refine Below.setCell ?_ (by first | omega | (simp; done) | (simp; omega)) _ | refine Below.alloc ?_ (by first | omega | (simp; done) | (simp; omega)) _)
    · exact ⟨H2.d, H2.ac, (show i64 13 by unfold i64; omega), H2.u, H2.off, i64_zero, H2.p, H2.t, H2.a⟩
  by_cases h14 : k = 14
  · subst h14
    have hw : wo ⟨14, u, p, t, off, sz, d, ac, ⟨an, av⟩⟩ = ⟨14, u, p, t, off, 0, d, ac, ⟨an, av⟩⟩ := by simp [wo]
    unfold WoPost
    rw [hw, show knownB 14 = true from rfl]
    go_enter Tryz.func115, Tryz.ntmps115
    go_wp2
    refine bodyPost_ret (v := .tuple #[rqV ⟨14, u, p, t, off, 0, d, ac, ⟨an, av⟩⟩ (.slice da dn dc) (.slice aa an' ac'), .bool true]) (by simp [results, Tryz.results115, rqV, go_sem, emptyB]) rfl ?_
    refine (fun hb => ⟨_, _, rfl, (fun H2 => ?_) (H.out.up hb), hb⟩) ?_
    · repeat (first | exact Below.refl _ _ | refine Below.setCell ?_ (by first | omega | (simp; done) | (simp; omega)) _ | refine Below.alloc ?_ (by first | omega | (simp; done) | (simp; omega)) _)
    · exact ⟨H2.d, H2.ac, (show i64 14 by unfold i64; omega), H2.u, H2.off, i64_zero, H2.p, H2.t, H2.a⟩
  have hn : ¬ (1 ≤ k ∧ k ≤ 14) := by omega
  have hw : wo ⟨k, u, p, t, off, sz, d, ac, ⟨an, av⟩⟩ = R0 := by simp [wo, *]
  unfold WoPost
  rw [hw, show knownB k = false from decide_eq_false hn]
  go_enter Tryz.func115, Tryz.ntmps115
  have e1 : (k == 1) = false := by simpa using h1
  have e2 : (k == 2) = false := by simpa using h2
  have e3 : (k == 3) = false := by simpa using h3
  have e4 : (k == 4) = false := by simpa using h4
  have e5 : (k == 5) = false := by simpa using h5
  have e6 : (k == 6) = false := by simpa using h6
  have e7 : (k == 7) = false := by simpa using h7
  have e8 : (k == 8) = false := by simpa using h8
  have e9 : (k == 9) = false := by simpa using h9
  have e10 : (k == 10) = false := by simpa using h10
  have e11 : (k == 11) = false := by simpa using h11
  have e12 : (k == 12) = false := by simpa using h12
  have e13 : (k == 13) = false := by simpa using h13
  have e14 : (k == 14) = false := by simpa using h14
  clear hn hw h1 h2 h3 h4 h5 h6 h7 h8 h9 h10 h11 h12 h13 h14
  go_wp2
  refine bodyPost_ret (v := .tuple #[rqV R0 (.slice none 0 0) (.slice none 0 0), .bool false]) (by simp [results, Tryz.results115, rqV, go_sem, emptyB]) rfl ?_
  refine (fun hb => ⟨_, _, rfl, ?_, hb⟩) ?_
  · repeat (first | exact Below.refl _ _ | refine Below.setCell ?_ (by first | omega | (simp; done) | (simp; omega)) _ | refine Below.alloc ?_ (by first | omega | (simp; done) | (simp; omega)) _)
  · exact ⟨Byts.none_ _ _, Acls.none_ _ _, i64_zero, i64_zero, i64_zero, i64_zero, by simp [maxLen], by simp [maxLen], A0_fits⟩

end Go.Proofs.YtmbbmmnpkdfecaaGreatDoor
