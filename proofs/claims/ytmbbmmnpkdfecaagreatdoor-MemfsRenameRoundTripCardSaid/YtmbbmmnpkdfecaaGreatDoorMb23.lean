/- Package memfs and what it calls, at this seat's translation.
   Condition: as each theorem states; this text: MfPerform. -/
import Derived.Test.YtmbbmmnpkdfecaaGreatDoorMb22
import Derived.Test.YtmbbmmnpkdfecaaGreatDoorMb21
import Derived.Test.YtmbbmmnpkdfecaaGreatDoorMb13

set_option linter.all false

/- perform and checkLimits: a request executed on a tree. Conditions: the execution is the call's own; the tree passes the first checks; versions lie in their range; the request passed its checks. -/

set_option linter.all false
namespace Go.Proofs.YtmbbmmnpkdfecaaGreatDoor
open Go.RowKit

theorem perfF_at {t : FT} {r : Rq} :
    (r.k = 1 → perfF t r = mkF t r 1) ∧ (r.k = 2 → perfF t r = mkF t r 2) ∧ (r.k = 3 → perfF t r = (reachF t r.u r.p 2 1, t)) ∧ (r.k = 4 → perfF t r = changeF t r 2 2) ∧ (r.k = 5 → perfF t r = changeF t r 2 2)
    ∧ (r.k = 6 → perfF t r = (reachF t r.u r.p 1 1, t)) ∧ (r.k = 7 → perfF t r = (reachF t r.u r.p 0 0, t)) ∧ (r.k = 8 → perfF t r = rmF t r) ∧ (r.k = 9 → perfF t r = mvF t r) ∧ (r.k = 10 → perfF t r = linkW t r)
    ∧ (r.k = 11 → perfF t r = changeF t r 0 8) ∧ (r.k = 12 → perfF t r = changeF t r 0 2) ∧ (r.k = 13 → perfF t r = changeF t r 1 8) ∧ (r.k = 14 → perfF t r = changeF t r 0 8) := by
  refine ⟨?_, ?_, ?_, ?_, ?_, ?_, ?_, ?_, ?_, ?_, ?_, ?_, ?_, ?_⟩ <;> (intro h; unfold perfF; simp [h])

set_option maxRecDepth 100000 in
set_option maxHeartbeats 1600000 in
theorem perform1_any (base X g cap : Nat) (sl : Nat → Sl) (t : FT) (r : Rq) (vd va : Value) (w : World) (h : XO w base X g cap sl t r vd va) (gm : GM w) (h1 : Ok1 (tr t)) (hv : VerOk t) (ok : RqOk r) (hk : r.k = 1) :
    Calls Tryz.prog 33 #[.pointer (some ⟨X, 0, none⟩)] w fun e w' =>
      e = .returned (.tuple #[.int .i64 (perfF t r).1.1, .int .i64 (perfF t r).1.2]) ∧ MutP base X r vd va (perfF t r).2 w w' := by
  rw [perfF_at.1 hk]
  have x1 := h.xr.b.c 1 _ rfl
  have xl := h.xr.b.lt
  have C := Lib.hid (create_any base X g cap sl t r vd va 1 w h gm h1 hv (by unfold i64; omega))
  rw [hk] at x1
  generalize mkF t r 1 = U at *
  clear h gm h1 hv ok
  go_enter Tryz.func33, Tryz.ntmps33
  go_wp2_with fail
  refine C.out.mono ?_
  rintro e w1 ⟨rfl, hb⟩
  have HM := Lib.hid hb
  clear hb
  go_wp2
  go_ret2
  exact ⟨rfl, HM.out⟩

set_option maxRecDepth 100000 in
set_option maxHeartbeats 1600000 in
theorem perform2_any (base X g cap : Nat) (sl : Nat → Sl) (t : FT) (r : Rq) (vd va : Value) (w : World) (h : XO w base X g cap sl t r vd va) (gm : GM w) (h1 : Ok1 (tr t)) (hv : VerOk t) (ok : RqOk r) (hk : r.k = 2) :
    Calls Tryz.prog 33 #[.pointer (some ⟨X, 0, none⟩)] w fun e w' =>
      e = .returned (.tuple #[.int .i64 (perfF t r).1.1, .int .i64 (perfF t r).1.2]) ∧ MutP base X r vd va (perfF t r).2 w w' := by
  rw [perfF_at.2.1 hk]
  have x1 := h.xr.b.c 1 _ rfl
  have xl := h.xr.b.lt
  have C := Lib.hid (create_any base X g cap sl t r vd va 2 w h gm h1 hv (by unfold i64; omega))
  rw [hk] at x1
  generalize mkF t r 2 = U at *
  clear h gm h1 hv ok
  go_enter Tryz.func33, Tryz.ntmps33
  go_wp2_with fail
  refine C.out.mono ?_
  rintro e w1 ⟨rfl, hb⟩
  have HM := Lib.hid hb
  clear hb
  go_wp2
  go_ret2
  exact ⟨rfl, HM.out⟩

set_option maxRecDepth 100000 in
set_option maxHeartbeats 1600000 in
theorem perform3_any (base X g cap : Nat) (sl : Nat → Sl) (t : FT) (r : Rq) (vd va : Value) (w : World) (h : XO w base X g cap sl t r vd va) (gm : GM w) (h1 : Ok1 (tr t)) (hv : VerOk t) (ok : RqOk r) (hk : r.k = 3) :
    Calls Tryz.prog 33 #[.pointer (some ⟨X, 0, none⟩)] w fun e w' =>
      e = .returned (.tuple #[.int .i64 (perfF t r).1.1, .int .i64 (perfF t r).1.2]) ∧ MutP base X r vd va (perfF t r).2 w w' := by
  rw [perfF_at.2.2.1 hk]
  have x1 := h.xr.b.c 1 _ rfl
  have xl := h.xr.b.lt
  have C := Lib.hid (reach_any X g cap t r vd va 2 1 w ⟨gm, h.rq.p, h.xr, h1⟩)
  rw [hk] at x1
  have H := Lib.hid h
  generalize reachF t r.u r.p 2 1 = U at *
  clear h gm h1 hv ok
  go_enter Tryz.func33, Tryz.ntmps33
  go_wp2_with fail
  refine C.out.mono ?_
  rintro e w1 ⟨rfl, hb⟩
  have HM := Lib.hid hb
  clear hb
  go_wp2
  go_ret2
  exact ⟨rfl, MutP.same H.out HM.out⟩

set_option maxRecDepth 100000 in
set_option maxHeartbeats 1600000 in
theorem perform4_any (base X g cap : Nat) (sl : Nat → Sl) (t : FT) (r : Rq) (vd va : Value) (w : World) (h : XO w base X g cap sl t r vd va) (gm : GM w) (h1 : Ok1 (tr t)) (hv : VerOk t) (ok : RqOk r) (hk : r.k = 4) :
    Calls Tryz.prog 33 #[.pointer (some ⟨X, 0, none⟩)] w fun e w' =>
      e = .returned (.tuple #[.int .i64 (perfF t r).1.1, .int .i64 (perfF t r).1.2]) ∧ MutP base X r vd va (perfF t r).2 w w' := by
  rw [perfF_at.2.2.2.1 hk]
  have x1 := h.xr.b.c 1 _ rfl
  have xl := h.xr.b.lt
  have C := Lib.hid (change_any base X g cap sl t r vd va 2 2 w h gm h.rq.p h1 hv ok (by unfold isChg; omega))
  rw [hk] at x1
  generalize changeF t r 2 2 = U at *
  clear h gm h1 hv ok
  go_enter Tryz.func33, Tryz.ntmps33
  go_wp2_with fail
  refine C.out.mono ?_
  rintro e w1 ⟨rfl, hb⟩
  have HM := Lib.hid hb
  clear hb
  go_wp2
  go_ret2
  exact ⟨rfl, HM.out⟩

set_option maxRecDepth 100000 in
set_option maxHeartbeats 1600000 in
theorem perform5_any (base X g cap : Nat) (sl : Nat → Sl) (t : FT) (r : Rq) (vd va : Value) (w : World) (h : XO w base X g cap sl t r vd va) (gm : GM w) (h1 : Ok1 (tr t)) (hv : VerOk t) (ok : RqOk r) (hk : r.k = 5) :
    Calls Tryz.prog 33 #[.pointer (some ⟨X, 0, none⟩)] w fun e w' =>
      e = .returned (.tuple #[.int .i64 (perfF t r).1.1, .int .i64 (perfF t r).1.2]) ∧ MutP base X r vd va (perfF t r).2 w w' := by
  rw [perfF_at.2.2.2.2.1 hk]
  have x1 := h.xr.b.c 1 _ rfl
  have xl := h.xr.b.lt
  have C := Lib.hid (change_any base X g cap sl t r vd va 2 2 w h gm h.rq.p h1 hv ok (by unfold isChg; omega))
  rw [hk] at x1
  generalize changeF t r 2 2 = U at *
  clear h gm h1 hv ok
  go_enter Tryz.func33, Tryz.ntmps33
  go_wp2_with fail
  refine C.out.mono ?_
  rintro e w1 ⟨rfl, hb⟩
  have HM := Lib.hid hb
  clear hb
  go_wp2
  go_ret2
  exact ⟨rfl, HM.out⟩

set_option maxRecDepth 100000 in
set_option maxHeartbeats 1600000 in
theorem perform6_any (base X g cap : Nat) (sl : Nat → Sl) (t : FT) (r : Rq) (vd va : Value) (w : World) (h : XO w base X g cap sl t r vd va) (gm : GM w) (h1 : Ok1 (tr t)) (hv : VerOk t) (ok : RqOk r) (hk : r.k = 6) :
    Calls Tryz.prog 33 #[.pointer (some ⟨X, 0, none⟩)] w fun e w' =>
      e = .returned (.tuple #[.int .i64 (perfF t r).1.1, .int .i64 (perfF t r).1.2]) ∧ MutP base X r vd va (perfF t r).2 w w' := by
  rw [perfF_at.2.2.2.2.2.1 hk]
  have x1 := h.xr.b.c 1 _ rfl
  have xl := h.xr.b.lt
  have C := Lib.hid (reach_any X g cap t r vd va 1 1 w ⟨gm, h.rq.p, h.xr, h1⟩)
  rw [hk] at x1
  have H := Lib.hid h
  generalize reachF t r.u r.p 1 1 = U at *
  clear h gm h1 hv ok
  go_enter Tryz.func33, Tryz.ntmps33
  go_wp2_with fail
  refine C.out.mono ?_
  rintro e w1 ⟨rfl, hb⟩
  have HM := Lib.hid hb
  clear hb
  go_wp2
  go_ret2
  exact ⟨rfl, MutP.same H.out HM.out⟩

set_option maxRecDepth 100000 in
set_option maxHeartbeats 1600000 in
theorem perform7_any (base X g cap : Nat) (sl : Nat → Sl) (t : FT) (r : Rq) (vd va : Value) (w : World) (h : XO w base X g cap sl t r vd va) (gm : GM w) (h1 : Ok1 (tr t)) (hv : VerOk t) (ok : RqOk r) (hk : r.k = 7) :
    Calls Tryz.prog 33 #[.pointer (some ⟨X, 0, none⟩)] w fun e w' =>
      e = .returned (.tuple #[.int .i64 (perfF t r).1.1, .int .i64 (perfF t r).1.2]) ∧ MutP base X r vd va (perfF t r).2 w w' := by
  rw [perfF_at.2.2.2.2.2.2.1 hk]
  have x1 := h.xr.b.c 1 _ rfl
  have xl := h.xr.b.lt
  have C := Lib.hid (reach_any X g cap t r vd va 0 0 w ⟨gm, h.rq.p, h.xr, h1⟩)
  rw [hk] at x1
  have H := Lib.hid h
  generalize reachF t r.u r.p 0 0 = U at *
  clear h gm h1 hv ok
  go_enter Tryz.func33, Tryz.ntmps33
  go_wp2_with fail
  refine C.out.mono ?_
  rintro e w1 ⟨rfl, hb⟩
  have HM := Lib.hid hb
  clear hb
  go_wp2
  go_ret2
  exact ⟨rfl, MutP.same H.out HM.out⟩

set_option maxRecDepth 100000 in
set_option maxHeartbeats 1600000 in
theorem perform8_any (base X g cap : Nat) (sl : Nat → Sl) (t : FT) (r : Rq) (vd va : Value) (w : World) (h : XO w base X g cap sl t r vd va) (gm : GM w) (h1 : Ok1 (tr t)) (hv : VerOk t) (ok : RqOk r) (hk : r.k = 8) :
    Calls Tryz.prog 33 #[.pointer (some ⟨X, 0, none⟩)] w fun e w' =>
      e = .returned (.tuple #[.int .i64 (perfF t r).1.1, .int .i64 (perfF t r).1.2]) ∧ MutP base X r vd va (perfF t r).2 w w' := by
  rw [perfF_at.2.2.2.2.2.2.2.1 hk]
  have x1 := h.xr.b.c 1 _ rfl
  have xl := h.xr.b.lt
  have C := Lib.hid (remove_any base X g cap sl t r vd va w h gm h1 hv)
  rw [hk] at x1
  generalize rmF t r = U at *
  clear h gm h1 hv ok
  go_enter Tryz.func33, Tryz.ntmps33
  go_wp2_with fail
  refine C.out.mono ?_
  rintro e w1 ⟨rfl, hb⟩
  have HM := Lib.hid hb
  clear hb
  go_wp2
  go_ret2
  exact ⟨rfl, HM.out⟩

set_option maxRecDepth 100000 in
set_option maxHeartbeats 1600000 in
theorem perform9_any (base X g cap : Nat) (sl : Nat → Sl) (t : FT) (r : Rq) (vd va : Value) (w : World) (h : XO w base X g cap sl t r vd va) (gm : GM w) (h1 : Ok1 (tr t)) (hv : VerOk t) (ok : RqOk r) (hk : r.k = 9) :
    Calls Tryz.prog 33 #[.pointer (some ⟨X, 0, none⟩)] w fun e w' =>
      e = .returned (.tuple #[.int .i64 (perfF t r).1.1, .int .i64 (perfF t r).1.2]) ∧ MutP base X r vd va (perfF t r).2 w w' := by
  rw [perfF_at.2.2.2.2.2.2.2.2.1 hk]
  have x1 := h.xr.b.c 1 _ rfl
  have xl := h.xr.b.lt
  have C := Lib.hid (rename_any base X g cap sl t r vd va w h gm h1 hv)
  rw [hk] at x1
  generalize mvF t r = U at *
  clear h gm h1 hv ok
  go_enter Tryz.func33, Tryz.ntmps33
  go_wp2_with fail
  refine C.out.mono ?_
  rintro e w1 ⟨rfl, hb⟩
  have HM := Lib.hid hb
  clear hb
  go_wp2
  go_ret2
  exact ⟨rfl, HM.out⟩

set_option maxRecDepth 100000 in
set_option maxHeartbeats 1600000 in
theorem perform10_any (base X g cap : Nat) (sl : Nat → Sl) (t : FT) (r : Rq) (vd va : Value) (w : World) (h : XO w base X g cap sl t r vd va) (gm : GM w) (h1 : Ok1 (tr t)) (hv : VerOk t) (ok : RqOk r) (hk : r.k = 10) :
    Calls Tryz.prog 33 #[.pointer (some ⟨X, 0, none⟩)] w fun e w' =>
      e = .returned (.tuple #[.int .i64 (perfF t r).1.1, .int .i64 (perfF t r).1.2]) ∧ MutP base X r vd va (perfF t r).2 w w' := by
  rw [perfF_at.2.2.2.2.2.2.2.2.2.1 hk]
  have x1 := h.xr.b.c 1 _ rfl
  have xl := h.xr.b.lt
  have C := Lib.hid (link_any base X g cap sl t r vd va w h gm h1 hv)
  rw [hk] at x1
  generalize linkW t r = U at *
  clear h gm h1 hv ok
  go_enter Tryz.func33, Tryz.ntmps33
  go_wp2_with fail
  refine C.out.mono ?_
  rintro e w1 ⟨rfl, hb⟩
  have HM := Lib.hid hb
  clear hb
  go_wp2
  go_ret2
  exact ⟨rfl, HM.out⟩

set_option maxRecDepth 100000 in
set_option maxHeartbeats 1600000 in
theorem perform11_any (base X g cap : Nat) (sl : Nat → Sl) (t : FT) (r : Rq) (vd va : Value) (w : World) (h : XO w base X g cap sl t r vd va) (gm : GM w) (h1 : Ok1 (tr t)) (hv : VerOk t) (ok : RqOk r) (hk : r.k = 11) :
    Calls Tryz.prog 33 #[.pointer (some ⟨X, 0, none⟩)] w fun e w' =>
      e = .returned (.tuple #[.int .i64 (perfF t r).1.1, .int .i64 (perfF t r).1.2]) ∧ MutP base X r vd va (perfF t r).2 w w' := by
  rw [perfF_at.2.2.2.2.2.2.2.2.2.2.1 hk]
  have x1 := h.xr.b.c 1 _ rfl
  have xl := h.xr.b.lt
  have C := Lib.hid (change_any base X g cap sl t r vd va 0 8 w h gm h.rq.p h1 hv ok (by unfold isChg; omega))
  rw [hk] at x1
  generalize changeF t r 0 8 = U at *
  clear h gm h1 hv ok
  go_enter Tryz.func33, Tryz.ntmps33
  go_wp2_with fail
  refine C.out.mono ?_
  rintro e w1 ⟨rfl, hb⟩
  have HM := Lib.hid hb
  clear hb
  go_wp2
  go_ret2
  exact ⟨rfl, HM.out⟩

set_option maxRecDepth 100000 in
set_option maxHeartbeats 1600000 in
theorem perform12_any (base X g cap : Nat) (sl : Nat → Sl) (t : FT) (r : Rq) (vd va : Value) (w : World) (h : XO w base X g cap sl t r vd va) (gm : GM w) (h1 : Ok1 (tr t)) (hv : VerOk t) (ok : RqOk r) (hk : r.k = 12) :
    Calls Tryz.prog 33 #[.pointer (some ⟨X, 0, none⟩)] w fun e w' =>
      e = .returned (.tuple #[.int .i64 (perfF t r).1.1, .int .i64 (perfF t r).1.2]) ∧ MutP base X r vd va (perfF t r).2 w w' := by
  rw [perfF_at.2.2.2.2.2.2.2.2.2.2.2.1 hk]
  have x1 := h.xr.b.c 1 _ rfl
  have xl := h.xr.b.lt
  have C := Lib.hid (change_any base X g cap sl t r vd va 0 2 w h gm h.rq.p h1 hv ok (by unfold isChg; omega))
  rw [hk] at x1
  generalize changeF t r 0 2 = U at *
  clear h gm h1 hv ok
  go_enter Tryz.func33, Tryz.ntmps33
  go_wp2_with fail
  refine C.out.mono ?_
  rintro e w1 ⟨rfl, hb⟩
  have HM := Lib.hid hb
  clear hb
  go_wp2
  go_ret2
  exact ⟨rfl, HM.out⟩

set_option maxRecDepth 100000 in
set_option maxHeartbeats 1600000 in
theorem perform13_any (base X g cap : Nat) (sl : Nat → Sl) (t : FT) (r : Rq) (vd va : Value) (w : World) (h : XO w base X g cap sl t r vd va) (gm : GM w) (h1 : Ok1 (tr t)) (hv : VerOk t) (ok : RqOk r) (hk : r.k = 13) :
    Calls Tryz.prog 33 #[.pointer (some ⟨X, 0, none⟩)] w fun e w' =>
      e = .returned (.tuple #[.int .i64 (perfF t r).1.1, .int .i64 (perfF t r).1.2]) ∧ MutP base X r vd va (perfF t r).2 w w' := by
  rw [perfF_at.2.2.2.2.2.2.2.2.2.2.2.2.1 hk]
  have x1 := h.xr.b.c 1 _ rfl
  have xl := h.xr.b.lt
  have C := Lib.hid (change_any base X g cap sl t r vd va 1 8 w h gm h.rq.p h1 hv ok (by unfold isChg; omega))
  rw [hk] at x1
  generalize changeF t r 1 8 = U at *
  clear h gm h1 hv ok
  go_enter Tryz.func33, Tryz.ntmps33
  go_wp2_with fail
  refine C.out.mono ?_
  rintro e w1 ⟨rfl, hb⟩
  have HM := Lib.hid hb
  clear hb
  go_wp2
  go_ret2
  exact ⟨rfl, HM.out⟩

set_option maxRecDepth 100000 in
set_option maxHeartbeats 1600000 in
theorem perform14_any (base X g cap : Nat) (sl : Nat → Sl) (t : FT) (r : Rq) (vd va : Value) (w : World) (h : XO w base X g cap sl t r vd va) (gm : GM w) (h1 : Ok1 (tr t)) (hv : VerOk t) (ok : RqOk r) (hk : r.k = 14) :
    Calls Tryz.prog 33 #[.pointer (some ⟨X, 0, none⟩)] w fun e w' =>
      e = .returned (.tuple #[.int .i64 (perfF t r).1.1, .int .i64 (perfF t r).1.2]) ∧ MutP base X r vd va (perfF t r).2 w w' := by
  rw [perfF_at.2.2.2.2.2.2.2.2.2.2.2.2.2 hk]
  have x1 := h.xr.b.c 1 _ rfl
  have xl := h.xr.b.lt
  have C := Lib.hid (change_any base X g cap sl t r vd va 0 8 w h gm h.rq.p h1 hv ok (by unfold isChg; omega))
  rw [hk] at x1
  generalize changeF t r 0 8 = U at *
  clear h gm h1 hv ok
  go_enter Tryz.func33, Tryz.ntmps33
  go_wp2_with fail
  refine C.out.mono ?_
  rintro e w1 ⟨rfl, hb⟩
  have HM := Lib.hid hb
  clear hb
  go_wp2
  go_ret2
  exact ⟨rfl, HM.out⟩

theorem perform_any (base X g cap : Nat) (sl : Nat → Sl) (t : FT) (r : Rq) (vd va : Value) (w : World) (h : XO w base X g cap sl t r vd va) (gm : GM w) (h1 : Ok1 (tr t)) (hv : VerOk t) (ok : RqOk r) (hk : knownB r.k = true) :
    Calls Tryz.prog 33 #[.pointer (some ⟨X, 0, none⟩)] w fun e w' =>
      e = .returned (.tuple #[.int .i64 (perfF t r).1.1, .int .i64 (perfF t r).1.2]) ∧ MutP base X r vd va (perfF t r).2 w w' := by
  have hk2 : 1 ≤ r.k ∧ r.k ≤ 14 := by unfold knownB at hk; simpa using hk
  by_cases h21 : r.k = 1
  · exact perform1_any base X g cap sl t r vd va w h gm h1 hv ok h21
  by_cases h22 : r.k = 2
  · exact perform2_any base X g cap sl t r vd va w h gm h1 hv ok h22
  by_cases h23 : r.k = 3
  · exact perform3_any base X g cap sl t r vd va w h gm h1 hv ok h23
  by_cases h24 : r.k = 4
  · exact perform4_any base X g cap sl t r vd va w h gm h1 hv ok h24
  by_cases h25 : r.k = 5
  · exact perform5_any base X g cap sl t r vd va w h gm h1 hv ok h25
  by_cases h26 : r.k = 6
  · exact perform6_any base X g cap sl t r vd va w h gm h1 hv ok h26
  by_cases h27 : r.k = 7
  · exact perform7_any base X g cap sl t r vd va w h gm h1 hv ok h27
  by_cases h28 : r.k = 8
  · exact perform8_any base X g cap sl t r vd va w h gm h1 hv ok h28
  by_cases h29 : r.k = 9
  · exact perform9_any base X g cap sl t r vd va w h gm h1 hv ok h29
  by_cases h30 : r.k = 10
  · exact perform10_any base X g cap sl t r vd va w h gm h1 hv ok h30
  by_cases h31 : r.k = 11
  · exact perform11_any base X g cap sl t r vd va w h gm h1 hv ok h31
  by_cases h32 : r.k = 12
  · exact perform12_any base X g cap sl t r vd va w h gm h1 hv ok h32
  by_cases h33 : r.k = 13
  · exact perform13_any base X g cap sl t r vd va w h gm h1 hv ok h33
  by_cases h34 : r.k = 14
  · exact perform14_any base X g cap sl t r vd va w h gm h1 hv ok h34
  omega

set_option maxRecDepth 100000 in
set_option maxHeartbeats 1600000 in
theorem checkLimits_any (X g cap : Nat) (t : FT) (r : Rq) (vd va : Value) (w : World) (h : XR w X g cap t r vd va) :
    Calls Tryz.prog 34 #[.pointer (some ⟨X, 0, none⟩)] w fun e w' => e = .returned (.int .i64 (valT (tr t)).1) ∧ Below w.heap.size w w' := by
  have C := Lib.hid (validT_any (some ⟨g, 0, none⟩) cap (tr t) w h.nd.nods)
  rw [tr_len] at C
  unfold faultV at C
  have x0 := h.b.c 0 _ rfl
  have xl := h.b.lt
  clear h
  generalize (valT (tr t)).1 = c at *
  generalize (valT (tr t)).2 = i at *
  have hfd := fun W => field_code c i W
  go_enter Tryz.func34, Tryz.ntmps34
  go_wp2_with fail
  refine C.out.mono ?_
  rintro e w1 ⟨rfl, hb⟩
  have HB := Lib.hid hb
  clear hb
  go_wp2
  go_ret
  exact ⟨rfl, HB.out⟩

end Go.Proofs.YtmbbmmnpkdfecaaGreatDoor
