/- areUsers at every slice of integers: each lies between 0 and 7. Conditions: the slice's cells lie in memory as they read. -/
import Derived.Test.YtndhhofidkaomaaFault
import Derived.Shelf.Abstract

set_option linter.all false
namespace Go.Proofs.Ytndhhofidkaomaa
open Go.RowKit

/-- The slice value v reads as the integers zs, all of it below block B. -/
def Ints (w : World) (B : Nat) (v : Value) (zs : List Int) : Prop :=
  ∃ a c, v = .slice a zs.length c ∧ zs.length ≤ c ∧ zs.length ≤ 8796093022208 ∧
    (0 < zs.length → ∃ b o, a = some ⟨b, o, none⟩ ∧ b < B ∧ ∀ j, j < zs.length → w.cell? ⟨b, o + j, none⟩ = some (.int .i64 (zs.getD j 0)))
theorem Ints.below {w w' : World} {B : Nat} {v : Value} {zs : List Int} (h : Ints w B v zs) (hb : Below B w w') : Ints w' B v zs := by
  obtain ⟨a, c, hv, hc, hl, hx⟩ := h
  refine ⟨a, c, hv, hc, hl, fun h0 => ?_⟩
  obtain ⟨b, o, ha, hB, hj⟩ := hx h0
  exact ⟨b, o, ha, hB, fun j h => (hb.cell (p := ⟨b, o + j, none⟩) hB).trans (hj j h)⟩
theorem Ints.more {w : World} {B B' : Nat} {v : Value} {zs : List Int} (h : Ints w B v zs) (hB : B ≤ B') : Ints w B' v zs := by
  obtain ⟨a, c, hv, hc, hl, hx⟩ := h
  refine ⟨a, c, hv, hc, hl, fun h0 => ?_⟩
  obtain ⟨b, o, ha, hb, hj⟩ := hx h0
  exact ⟨b, o, ha, by omega, hj⟩
theorem ints_one (w : World) (n : Nat) (hn : n = w.heap.size) (z : Int) (t : TypeId) : Ints (w.alloc (.cells #[.int .i64 z] t)) (w.heap.size + 1) (.slice (some ⟨n, 0, none⟩) 1 1) [z] := by
  subst hn
  refine ⟨_, _, rfl, by simp, by simp, fun _ => ⟨_, _, rfl, by simp, ?_⟩⟩
  intro j hj
  match j, hj with
  | 0, _ => simp
theorem ints_two (w : World) (n : Nat) (hn : n = w.heap.size) (x y : Int) (t : TypeId) : Ints (w.alloc (.cells #[.int .i64 x, .int .i64 y] t)) (w.heap.size + 1) (.slice (some ⟨n, 0, none⟩) 2 2) [x, y] := by
  subst hn
  refine ⟨_, _, rfl, by simp, by simp, fun _ => ⟨_, _, rfl, by simp, ?_⟩⟩
  intro j hj
  match j, hj with
  | 0, _ => simp
  | 1, _ => simp

/-- The ID of a user. -/
def usr (z : Int) : Bool := decide (0 ≤ z ∧ z ≤ 7)
theorem usr_of {b : Bool} {z : Int} (h : b = true ↔ ¬ (0 ≤ z ∧ z ≤ 7)) : b = !usr z := by
  unfold usr; rw [Bool.eq_iff_iff, h, Bool.not_eq_true', decide_eq_false_iff_not]

set_option maxHeartbeats 400000 in
theorem users1_any (z : Int) (w : World) :
    Calls Try.prog 71 #[.int .i64 z] w fun e w' => e = .returned (.bool (!usr z)) ∧ w = w' := by
  go_enter Try.func71, Try.ntmps71
  go_wp2
  all_goals
    go_ret
    refine ⟨ret_bool (usr_of ?_), rfl⟩
    simp
    try omega

/-- The place of the first integer that is no user's ID, or -1. -/
def badU (zs : List Int) : Int := if zs.all usr then -1 else zs.findIdx fun z => !usr z
theorem badU_hit {zs : List Int} {k : Nat} (hk : k < zs.length) (hb : usr (zs.getD k 0) = false) (hA : ∀ j, j < k → usr (zs.getD j 0) = true) : (k : Int) = badU zs := by
  have e : ∀ j, (h : j < zs.length) → zs.getD j 0 = zs[j] := fun j h => by rw [List.getD_eq_getElem?_getD, List.getElem?_eq_getElem h]; rfl
  have hn : zs.all usr = false := by
    rw [Bool.eq_false_iff]; intro h
    have := List.all_eq_true.1 h _ (List.getElem_mem hk)
    rw [← e k hk, hb] at this; cases this
  have hf : zs.findIdx (fun z => !usr z) = k := by
    rw [List.findIdx_eq hk]
    refine ⟨by rw [← e k hk, hb]; rfl, fun j hj => ?_⟩
    rw [← e j (by omega), hA j hj]; rfl
  unfold badU; rw [hn, hf]; simp
theorem badU_miss {zs : List Int} (hA : ∀ j, j < zs.length → usr (zs.getD j 0) = true) : -1 = badU zs := by
  have : zs.all usr = true := by
    rw [List.all_eq_true]
    intro x hx
    obtain ⟨j, hj, rfl⟩ := List.mem_iff_getElem.1 hx
    have := hA j hj
    rwa [List.getD_eq_getElem?_getD, List.getElem?_eq_getElem hj] at this
  unfold badU; rw [if_pos this]
theorem badU_sign (zs : List Int) : decide (0 ≤ badU zs) = !zs.all usr := by
  unfold badU
  cases h : zs.all usr with
  | true => simp
  | false => simp
theorem eg_users1 : ∀ args w, (callFunc 71 args).run Try.prog w = .ok (.enter 71 args) w := enters_of Try.func71 (by kernel_rfl) rfl

set_option maxHeartbeats 400000 in
theorem idxInts_any (v : Value) (zs : List Int) (w : World) (B : Nat) (h : Ints w B v zs) :
    Calls Try.prog 77 #[v, .func (.func 71) #[] #[]] w fun e w' => e = .returned (.int .i64 (badU zs)) ∧ w = w' := by
  obtain ⟨a, c, rfl, hc, hl, hx⟩ := h
  have eg := eg_users1
  go_enter Try.func77, Try.ntmps77
  go_wp2
  go_loopg [5, 8] zs.length (fun gg _ s8 wr => ∃ kk : Nat, kk ≤ zs.length ∧ zs.length - kk ≤ gg ∧ s8 = .int .i64 kk ∧ wr = w ∧ Aside (∀ j, j < kk → usr (zs.getD j 0) = true))
  case atStart => exact ⟨0, Nat.zero_le _, by omega, rfl, rfl, fun j hj => absurd hj (Nat.not_lt_zero _)⟩
  case round =>
    obtain ⟨kk, hkk, hg, rfl, rfl, A⟩ := hrel
    by_cases hlt : kk < zs.length
    · have hltz : (kk : Int) < (zs.length : Int) := by omega
      obtain ⟨b, o, rfl, hb, hj⟩ := hx (by omega)
      have hcell : wr.cell? ⟨b, o + kk, none⟩ = some (.int .i64 (zs.getD kk 0)) := hj kk hlt
      clear hx hj
      generalize hy : zs.getD kk 0 = y at hcell
      have Y : Aside (zs.getD kk 0 = y) := hy
      clear hy
      have hcall := fun W => users1_any y W
      cases hq : usr y with
      | false =>
        rw [hq] at hcall
        have Q : Aside (usr y = false) := hq
        clear hq
        go_wp2_with (go_at_fn 71; refine (hcall _).mono ?_; rintro e w' ⟨rfl, rfl⟩)
        go_ret
        exact ⟨ret_int (badU_hit hlt (by rw [Y.out]; exact Q.out) A.out), rfl⟩
      | true =>
        rw [hq] at hcall
        have Q : Aside (usr y = true) := hq
        clear hq
        go_wp2_with (go_at_fn 71; refine (hcall _).mono ?_; rintro e w' ⟨rfl, rfl⟩)
        go_roundg (zs.length - (kk + 1))
        case measure => omega
        case rel =>
          refine ⟨kk + 1, by omega, by omega, by go_num, rfl, (show Aside _ from fun j hj => ?_)⟩
          by_cases e : j = kk
          · subst e
            rw [Y.out]; exact Q.out
          · exact A.out j (by omega)
    · have hltz : ¬ (kk : Int) < (zs.length : Int) := by omega
      have e : kk = zs.length := by omega
      have E : Aside (kk = zs.length) := e
      clear e
      go_wp2
      go_ret
      exact ⟨ret_int (badU_miss fun j hj => A.out j (by have := E.out; omega)), rfl⟩

set_option maxHeartbeats 400000 in
theorem hasInts_any (v : Value) (zs : List Int) (w : World) (B : Nat) (h : Ints w B v zs) :
    Calls Try.prog 70 #[v, .func (.func 71) #[] #[]] w fun e w' => e = .returned (.bool (!zs.all usr)) ∧ w = w' := by
  have hcon := idxInts_any v zs w B h
  have HS := Lib.hid (badU_sign zs)
  generalize badU zs = i at *
  go_enter Try.func70, Try.ntmps70
  go_wp2_with (go_at_call 77; refine hcon.mono ?_; rintro e w' ⟨rfl, rfl⟩)
  go_ret
  exact ⟨ret_bool HS.out, rfl⟩

set_option maxHeartbeats 400000 in
theorem areUsers_any (v : Value) (zs : List Int) (w : World) (B : Nat) (h : Ints w B v zs) :
    Calls Try.prog 63 #[v] w fun e w' => e = .returned (.bool (zs.all usr)) ∧ w = w' := by
  have hcon := hasInts_any v zs w B h
  go_enter Try.func63, Try.ntmps63
  go_wp2_with (go_at_call 70; refine hcon.mono ?_; rintro e w' ⟨rfl, rfl⟩)
  go_ret
  exact ⟨ret_bool (by simp), rfl⟩

end Go.Proofs.Ytndhhofidkaomaa
