/- checkEntry at every entry. Conditions: the fields are in int64's range. -/
import Derived.Test.YtndhhofidkaomaaAclInts
import Derived.Laws.BitsAllLaws

set_option linter.all false
namespace Go.Proofs.Ytndhhofidkaomaa
open Go.RowKit

structure Ent where
  u : Int
  a : Int
  d : Int
def E0 : Ent := ⟨0, 0, 0⟩
def Ent.val (e : Ent) : Value := .agg #[.int .i64 e.u, .int .i64 e.a, .int .i64 e.d]
def i64 (n : Int) : Prop := -9223372036854775808 ≤ n ∧ n ≤ 9223372036854775807
def Ent.fits (e : Ent) : Prop := i64 e.u ∧ i64 e.a ∧ i64 e.d

/-- What checkEntry tests, in its order: the user, then the permissions. -/
def codeE (e : Ent) : Int :=
  if e.u ≠ -1 ∧ usr e.u = false then 3
  else if bits .andNot .i64 (bits .or .i64 e.a e.d) 15 ≠ 0 ∨ bits .and .i64 e.a e.d ≠ 0 ∨ bits .or .i64 e.a e.d = 0 then 5 else 0

theorem code_user {e : Ent} (h : e.u ≠ -1) (h2 : usr e.u = false) : 3 = codeE e := by unfold codeE; rw [if_pos ⟨h, h2⟩]
theorem code_perm {e : Ent} (h : e.u = -1 ∨ usr e.u = true) (x y z : Int) (hx : x = bits .andNot .i64 (bits .or .i64 e.a e.d) 15) (hy : y = bits .and .i64 e.a e.d) (hz : z = bits .or .i64 e.a e.d)
    (h2 : x ≠ 0 ∨ y ≠ 0 ∨ z = 0) : 5 = codeE e := by
  subst hx hy hz
  unfold codeE; rw [if_neg (fun k => by rcases h with h | h; exact k.1 h; rw [k.2] at h; cases h), if_pos h2]
theorem code_ok {e : Ent} (h : e.u = -1 ∨ usr e.u = true) (x y z : Int) (hx : x = bits .andNot .i64 (bits .or .i64 e.a e.d) 15) (hy : y = bits .and .i64 e.a e.d) (hz : z = bits .or .i64 e.a e.d)
    (h2 : ¬ (x ≠ 0 ∨ y ≠ 0 ∨ z = 0)) : 0 = codeE e := by
  subst hx hy hz
  unfold codeE; rw [if_neg (fun k => by rcases h with h | h; exact k.1 h; rw [k.2] at h; cases h), if_neg h2]

set_option maxHeartbeats 400000 in
theorem checkEntry_any (u a d : Int) (w : World) :
    Calls Try.prog 57 #[.agg #[.int .i64 u, .int .i64 a, .int .i64 d]] w fun e w' => e = .returned (.int .i64 (codeE ⟨u, a, d⟩)) ∧ Below w.heap.size w w' := by
  by_cases hu : u = -1
  · subst hu
    go_enter Try.func57, Try.ntmps57
    go_wp2
    all_goals
      go_ret
      refine ⟨ret_int ?_, (Below.refl _ _).alloc (Nat.le_refl _) _⟩
      first | exact code_perm (.inl rfl) _ _ _ rfl rfl rfl (by simp_all) | exact code_ok (.inl rfl) _ _ _ rfl rfl rfl (by simp_all)
  · have hu2 : (u == -1) = false := by simpa using hu
    have hu3 : (u != -1) = true := by simpa using hu
    have HU := Lib.hid hu
    clear hu
    have hcon := fun W B h => areUsers_any (.slice (some ⟨w.heap.size + 1, 0, none⟩) 1 1) [u] W B h
    have e1 : [u].all usr = usr u := by simp
    rw [e1] at hcon
    clear e1
    cases hq : usr u with
    | false =>
      rw [hq] at hcon
      have HQ := Lib.hid hq
      clear hq
      go_enter Try.func57, Try.ntmps57
      go_wp2_with fail
      refine (hcon _ (w.heap.size + 2) (by simpa using ints_one (w.alloc _) _ (by simp) u _)).mono ?_
      rintro e w' ⟨rfl, rfl⟩
      go_wp2
      go_ret
      exact ⟨ret_int (code_user HU.out HQ.out), ((Below.refl _ _).alloc (Nat.le_refl _) _).alloc (by simp) _⟩
    | true =>
      rw [hq] at hcon
      have HQ := Lib.hid hq
      clear hq
      go_enter Try.func57, Try.ntmps57
      go_wp2_with fail
      refine (hcon _ (w.heap.size + 2) (by simpa using ints_one (w.alloc _) _ (by simp) u _)).mono ?_
      rintro e w' ⟨rfl, rfl⟩
      go_wp2
      all_goals
        go_ret
        refine ⟨ret_int ?_, ((Below.refl _ _).alloc (Nat.le_refl _) _).alloc (by simp) _⟩
        first | exact code_perm (.inr HQ.out) _ _ _ rfl rfl rfl (by simp_all) | exact code_ok (.inr HQ.out) _ _ _ rfl rfl rfl (by simp_all)

end Go.Proofs.Ytndhhofidkaomaa
