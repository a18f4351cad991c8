/- Package memfs and what it calls, at this seat's translation.
   Condition: as each theorem states; this text: FsValid. -/
import Derived.Test.YtmbbmmnpkdfecaaGreatDoorMb10

set_option linter.all false

/- fstree.Validate at every tree: the fault in plain words. Conditions: the tree's cells lie in memory as they read. -/

set_option linter.all false
namespace Go.Proofs.YtmbbmmnpkdfecaaGreatDoor
open Go.RowKit

/-- What holds between the checks. -/
structure VInv (w wr : World) (t : Tr) (a : Option Addr) (c B1 F : Nat) : Prop where
  b : Below w.heap.size w wr
  tb : One wr w.heap.size (.slice a t.length c)
  fb : FBox wr B1 0 0
  fl : F < wr.heap.size
  fn : ∀ j, j < 4 → wr.cell? ⟨F, j, none⟩ = some (.func (.func (fnK j)) #[] #[])
theorem VInv.step {w wr z : World} {t : Tr} {a : Option Addr} {c B1 F : Nat} (h : VInv w wr t a c B1 F) (hb : Below wr.heap.size wr z) : VInv w z t a c B1 F :=
  ⟨h.b.trans (hb.mono h.b.size), h.tb.below hb h.tb.lt, h.fb.below hb h.fb.lt, Nat.lt_of_lt_of_le h.fl hb.size, fun j hj => (hb.cell (p := ⟨F, j, none⟩) h.fl).trans (h.fn j hj)⟩

theorem fns_new (X : World) (F : Nat) (hF : F = X.heap.size) (t : TypeId) : ∀ j, j < 4 → (X.alloc (.cells #[.func (.func 56) #[] #[], .func (.func 57) #[] #[], .func (.func 58) #[] #[], .func (.func 59) #[] #[]] t)).cell? ⟨F, j, none⟩ = some (.func (.func (fnK j)) #[] #[]) := by
  subst hF
  intro j hj
  match j, hj with
  | 0, _ => simp [fnK]
  | 1, _ => simp [fnK]
  | 2, _ => simp [fnK]
  | 3, _ => simp [fnK]

set_option maxRecDepth 100000 in
set_option maxHeartbeats 1600000 in
theorem validT_head (a : Option Addr) (c : Nat) (t : Tr) (w : World) (hd : Head t) (h : Nods w w.heap.size a c t) :
    Calls Tryz.prog 30 #[.agg #[.slice a t.length c]] w fun e w' => e = .returned (faultV (valT t).1 (valT t).2) ∧ Below w.heap.size w w' := by
  have H := Lib.hid h
  have HD := Lib.hid hd
  have h0 := hd.ne
  have h40 := hd.le
  obtain ⟨b, o, ve, vd, va, vx, rfl, hb, hc, hs⟩ := h.one h0
  have g0 := hc.c0
  rw [hd.root] at g0
  have g0 : w.cell? ⟨b, o, none⟩ = some (.int .i64 1) := by simpa using g0
  have hlz : ((t.length : Int) == 0) = false := by rw [beq_eq_false_iff_ne]; omega
  have hgz : decide ((40 : Int) < (t.length : Int)) = false := by rw [decide_eq_false_iff_not]; omega
  have h0z : (0 : Int) < (t.length : Int) := by omega
  have I0 := Lib.hid (show VInv w (((w.alloc (.cells #[.slice (some ⟨b, o, none⟩) t.length c] 24)).alloc (.cells #[.int .i64 0, .int .i64 0] 37)).alloc (.cells #[.func (.func 56) #[] #[], .func (.func 57) #[] #[], .func (.func 58) #[] #[], .func (.func 59) #[] #[]] 100)) t (some ⟨b, o, none⟩) c (w.heap.size + 1) (w.heap.size + 1 + 1) from
    ⟨(((Below.refl _ _).alloc (Nat.le_refl _) _).alloc (by first | omega | (simp; done) | (simp; omega)) _).alloc (by first | omega | (simp; done) | (simp; omega)) _, ((One.new w _ _).alloc _).alloc _, ((FBox.new (w.alloc _) 0 0 _).alloc _).at_ (by simp), by simp, fns_new ((w.alloc _).alloc _) _ (by simp) _⟩)
  clear hc hs h hd
  go_enter Tryz.func30, Tryz.ntmps30
  go_wp2_with fail
  have o1 : w.heap.size < w.heap.size + 1 := by omega
  have o2 : w.heap.size + 1 < w.heap.size + 1 + 1 := by omega
  generalize w.heap.size + 1 + 1 = F at *
  generalize w.heap.size + 1 = B1 at *
  go_loopg [5, 6, 7, 8, 32] 4 (fun gg _ _ _ _ s32 wr => ∃ k : Nat, k ≤ 4 ∧ 4 - k ≤ gg ∧ s32 = .int .i64 k ∧ Aside (VInv w wr t (some ⟨b, o, none⟩) c B1 F) ∧ Aside (Pass t k))
  case atStart => exact ⟨0, by omega, by omega, rfl, I0.out, (show Pass t 0 from fun j hj => absurd hj (Nat.not_lt_zero _))⟩
  case round =>
    obtain ⟨k, hk, hg, rfl, I, P⟩ := hrel
    clear I0
    obtain ⟨w2, rfl⟩ : ∃ w2 : World, w2 = wr := ⟨_, rfl⟩
    by_cases hlt : k < 4
    · have hltz : (k : Int) < 4 := by omega
      have hm9 : 4 - (k + 1) < 4 - k := Nat.sub_lt_sub_left hlt (Nat.lt_succ_self k)
      have fc := I.out.fn k hlt
      have fl := I.out.fl
      have tc := I.out.tb.c0
      have tl := I.out.tb.lt
      have HC := Lib.hid (check_any k (some ⟨b, o, none⟩) c t w2 HD.out P.out hlt (H.out.up I.out.b))
      have eg := eg_fnK k hlt
      generalize fnK k = g at *
      go_wp2_with (go_at_fn g; refine HC.out.mono ?_; rintro e w3 ⟨g1, caps, rfl, b3, eg1, hcall⟩; have I3 := Lib.hid (I.out.step b3); have tc3 := I3.out.tb.c0; have tl3 := I3.out.tb.lt)
      have HCL := Lib.hid hcall
      clear hcall b3 fc tc HC
      go_loopg [7, 8, 42] t.length (fun gg _ _ s42 wr => ∃ n : Nat, n ≤ t.length ∧ t.length - n ≤ gg ∧ s42 = .int .i64 n ∧ Aside (Below w3.heap.size w3 wr) ∧ Aside (∀ j, j < n → codeK t k j = 0))
      case atStart => exact ⟨0, by omega, by omega, rfl, Below.refl _ _, fun j hj => absurd hj (Nat.not_lt_zero _)⟩
      case round =>
        obtain ⟨n, hn, hg2, rfl, BW, A⟩ := hrel
        by_cases hln : n < t.length
        · have hlnz : (n : Int) < (t.length : Int) := by omega
          have hm8 : t.length - (n + 1) < t.length - n := Nat.sub_lt_sub_left hln (Nat.lt_succ_self n)
          have HN := Lib.hid (HCL.out wr BW.out n hln)
          generalize hq : codeK t k n = q at *
          have HQ := Lib.hid hq
          clear hq
          by_cases hq0 : q = 0
          · subst hq0
            go_wp2_with (go_at_fn g1; refine HN.out.mono ?_; rintro e w4 ⟨rfl, b4⟩)
            have B4 := Lib.hid (BW.out.trans (b4.mono BW.out.size))
            clear b4
            go_roundg (t.length - (n + 1))
            case measure => exact Nat.lt_of_lt_of_le hm8 hg2
            case rel =>
              refine ⟨n + 1, by omega, by omega, by go_num, B4.out, (show Aside _ from fun j hj => ?_)⟩
              by_cases e : j = n
              · subst e; exact HQ.out
              · exact A.out j (by omega)
          · have hq1 : (q != 0) = true := by simpa using hq0
            have hq2 : (q == 0) = false := by simpa using hq0
            have HV := Lib.hid (valT_hit HD.out hlt P.out hln HQ.out hq0 A.out)
            clear hq0
            go_wp2_with (go_at_fn g1; refine HN.out.mono ?_; rintro e w4 ⟨rfl, b4⟩; have I4 := Lib.hid ((I3.out.step BW.out).step b4); have a0 := I4.out.fb.c0; have a1 := I4.out.fb.c1; have f0 := I4.out.fb.f0; have f1 := I4.out.fb.f1; have l4 := I4.out.fb.lt)
            exact bodyPost_ret (v := faultV q n) (by simp [results, Tryz.results30, faultV, go_sem, a0, a1]) rfl ⟨by rw [HV.out], (I4.out.b.setCell (by first | omega | (simp; done) | (simp; omega)) _).setCell (by first | omega | (simp; done) | (simp; omega)) _⟩
        · obtain rfl : n = t.length := by omega
          have P2 := Lib.hid (P.out.succ A.out)
          have I5 := Lib.hid (I3.out.step BW.out)
          go_wp2
          go_roundg (4 - (k + 1))
          case measure => exact Nat.lt_of_lt_of_le hm9 hg
          case rel => exact ⟨k + 1, by omega, by omega, by go_num, I5.out, P2.out⟩
    · obtain rfl : k = 4 := by omega
      have HV := Lib.hid (valT_miss HD.out P.out)
      have a0 := I.out.fb.c0
      have a1 := I.out.fb.c1
      have f0 := I.out.fb.f0
      have f1 := I.out.fb.f1
      have l4 := I.out.fb.lt
      go_wp2
      exact bodyPost_ret (v := faultV 0 0) (by simp [results, Tryz.results30, faultV, go_sem, a0, a1]) rfl ⟨by rw [HV.out], (I.out.b.setCell (by first | omega | (simp; done) | (simp; omega)) _).setCell (by first | omega | (simp; done) | (simp; omega)) _⟩

set_option maxRecDepth 100000 in
set_option maxHeartbeats 800000 in
theorem validT_any (a : Option Addr) (c : Nat) (t : Tr) (w : World) (h : Nods w w.heap.size a c t) :
    Calls Tryz.prog 30 #[.agg #[.slice a t.length c]] w fun e w' => e = .returned (faultV (valT t).1 (valT t).2) ∧ Below w.heap.size w w' := by
  have hll := h.len
  by_cases h0 : t.length = 0
  · have HV := Lib.hid (valT_none h0)
    clear h
    generalize t.length = m at *
    subst h0
    go_enter Tryz.func30, Tryz.ntmps30
    go_wp2
    exact bodyPost_ret (v := faultV 6 0) (by simp [results, Tryz.results30, faultV, go_sem]) rfl ⟨by rw [HV.out], by repeat (first | exact Below.refl _ _ | refine Below.setCell ?_ (by first | omega | (simp; done) | (simp; omega)) _ | refine Below.alloc ?_ (by first | omega | (simp; done) | (simp; omega)) _)⟩
  · have hlz : ((t.length : Int) == 0) = false := by rw [beq_eq_false_iff_ne]; omega
    by_cases h40 : 40 < t.length
    · have HV := Lib.hid (valT_many h40)
      have hgz : (40 : Int) < (t.length : Int) := by omega
      clear h h0
      go_enter Tryz.func30, Tryz.ntmps30
      go_wp2
      exact bodyPost_ret (v := faultV 2 0) (by simp [results, Tryz.results30, faultV, go_sem]) rfl ⟨by rw [HV.out], by repeat (first | exact Below.refl _ _ | refine Below.setCell ?_ (by first | omega | (simp; done) | (simp; omega)) _ | refine Below.alloc ?_ (by first | omega | (simp; done) | (simp; omega)) _)⟩
    · by_cases hr : (nod t 0).k = 1
      · exact validT_head a c t w ⟨by omega, by omega, hr⟩ h
      · have HV := Lib.hid (valT_root h0 h40 hr)
        have hgz : decide ((40 : Int) < (t.length : Int)) = false := by rw [decide_eq_false_iff_not]; omega
        have h0z : (0 : Int) < (t.length : Int) := by omega
        obtain ⟨b, o, ve, vd, va, vx, rfl, hb, hc, hs⟩ := h.one (j := 0) (by omega)
        have g0 := hc.c0
        have g0 : w.cell? ⟨b, o, none⟩ = some (.int .i64 (nod t 0).k) := by simpa using g0
        clear hc hs h h0
        generalize (nod t 0).k = k at *
        have hk1 : (k != 1) = true := by simpa using hr
        clear hr
        go_enter Tryz.func30, Tryz.ntmps30
        go_wp2
        exact bodyPost_ret (v := faultV 8 0) (by simp [results, Tryz.results30, faultV, go_sem]) rfl ⟨by rw [HV.out], by repeat (first | exact Below.refl _ _ | refine Below.setCell ?_ (by first | omega | (simp; done) | (simp; omega)) _ | refine Below.alloc ?_ (by first | omega | (simp; done) | (simp; omega)) _)⟩

end Go.Proofs.YtmbbmmnpkdfecaaGreatDoor
