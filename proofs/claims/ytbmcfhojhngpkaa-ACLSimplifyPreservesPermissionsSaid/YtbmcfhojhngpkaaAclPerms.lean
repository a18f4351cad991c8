/- permissionsWhere at every function value that answers a bool and leaves memory below as it was; Permissions' own function. Conditions: as each theorem states. -/
import Derived.Test.YtbmcfhojhngpkaaAclUserFault
namespace Go.Proofs.Ytbmcfhojhngpkaa
open Go.RowKit

/-- The four permissions in order. -/
def pm (k : Nat) : Int := [1, 2, 4, 8].getD k 0
theorem pm_prm {k : Nat} (h : k < 4) : prm (pm k) = true := by
  match k, h with
  | 0, _ => rfl
  | 1, _ => rfl
  | 2, _ => rfl
  | 3, _ => rfl
/-- The set of the first k permissions of which p holds. -/
def pw (p : Int → Bool) : Nat → Int
  | 0 => 0
  | k + 1 => if p (pm k) then bits .or .i64 (pw p k) (pm k) else pw p k
theorem pw_yes {p : Int → Bool} {k : Nat} (h : p (pm k) = true) : pw p (k + 1) = bits .or .i64 (pw p k) (pm k) := by
  conv => lhs; unfold pw
  rw [if_pos h]
theorem pw_no {p : Int → Bool} {k : Nat} (h : p (pm k) = false) : pw p (k + 1) = pw p k := by
  conv => lhs; unfold pw
  rw [if_neg (by rw [h]; simp)]

set_option maxHeartbeats 800000 in
theorem permsWhere_any (g : FuncId) (a1 a2 a3 : Addr) (eg : ∀ args w, (callFunc g args).run Try.prog w = .ok (.enter g args) w) (p : Int → Bool) (w : World)
    (hp : ∀ W m, prm m = true → Below w.heap.size w W → Calls Try.prog g #[.int .i64 m, .pointer (some a1), .pointer (some a2), .pointer (some a3)] W fun e w' => e = .returned (.bool (p m)) ∧ Below W.heap.size W w') :
    Calls Try.prog 24 #[.func (.func g) #[] #[.pointer (some a1), .pointer (some a2), .pointer (some a3)]] w fun e w' => e = .returned (.int .i64 (pw p 4)) ∧ Below w.heap.size w w' := by
  have HP := Lib.hid hp
  clear hp
  go_enter Try.func24, Try.ntmps24
  go_wp2
  go_loopg [3, 5, 8] 4 (fun gg s3 _ s8 wr => ∃ kk : Nat, kk ≤ 4 ∧ 4 - kk ≤ gg ∧ s8 = .int .i64 kk ∧ s3 = .int .i64 (pw p kk) ∧ Aside (Below w.heap.size w wr) ∧ Aside (w.heap.size < wr.heap.size ∧ ∀ j, j < 4 → wr.cell? ⟨w.heap.size, j, none⟩ = some (.int .i64 (pm j))))
  case atStart =>
    refine ⟨0, by omega, by omega, rfl, rfl, (Below.refl _ _).alloc (Nat.le_refl _) _, (show _ ∧ _ from ⟨by simp, fun j hj => ?_⟩)⟩
    match j, hj with
    | 0, _ => simp [pm]
    | 1, _ => simp [pm]
    | 2, _ => simp [pm]
    | 3, _ => simp [pm]
  case round =>
    obtain ⟨kk, hkk, hg, rfl, rfl, BW, FB⟩ := hrel
    by_cases hlt : kk < 4
    · have hltz : (kk : Int) < 4 := by omega
      have hcell := FB.out.2 kk hlt
      have hcall := fun W hb => HP.out W (pm kk) (pm_prm hlt) hb
      have hy := @pw_yes p kk
      have hn := @pw_no p kk
      generalize pm kk = m at hcell hcall hy hn
      have hs := BW.out.size
      cases hq : p m with
      | true =>
        rw [hq] at hcall
        have HY := Lib.hid (hy hq)
        clear hq hy hn
        generalize pw p kk = acc at *
        go_wp2_with (go_at_fn g; refine (hcall _ BW.out).mono ?_; rintro e w' ⟨rfl, hb'⟩)
        go_roundg (4 - (kk + 1))
        case measure => omega
        case rel =>
          refine ⟨kk + 1, by omega, by omega, by go_num, by rw [HY.out], BW.out.trans (hb'.mono hs), (show _ ∧ _ from ⟨Nat.lt_of_lt_of_le FB.out.1 hb'.size, fun j hj => (hb'.cell (p := ⟨w.heap.size, j, none⟩) FB.out.1).trans (FB.out.2 j hj)⟩)⟩
      | false =>
        rw [hq] at hcall
        have HN := Lib.hid (hn hq)
        clear hq hy hn
        generalize pw p kk = acc at *
        go_wp2_with (go_at_fn g; refine (hcall _ BW.out).mono ?_; rintro e w' ⟨rfl, hb'⟩)
        go_roundg (4 - (kk + 1))
        case measure => omega
        case rel =>
          refine ⟨kk + 1, by omega, by omega, by go_num, by rw [HN.out], BW.out.trans (hb'.mono hs), (show _ ∧ _ from ⟨Nat.lt_of_lt_of_le FB.out.1 hb'.size, fun j hj => (hb'.cell (p := ⟨w.heap.size, j, none⟩) FB.out.1).trans (FB.out.2 j hj)⟩)⟩
    · obtain rfl : kk = 4 := by omega
      generalize hacc : pw p 4 = acc
      have HA := Lib.hid hacc
      clear hacc
      go_wp2
      go_ret
      exact ⟨ret_int HA.out.symm, BW.out⟩

/-- Permissions' own function: the three captured variables are cells below. -/
theorem perms1_any (v : Value) (xs : List Ent) (o x m : Int) (p1 p2 p3 : Nat) (w : World) (h : Acls w w.heap.size v xs)
    (h1 : w.cell? ⟨p1, 0, none⟩ = some v) (h2 : w.cell? ⟨p2, 0, none⟩ = some (.int .i64 o)) (h3 : w.cell? ⟨p3, 0, none⟩ = some (.int .i64 x)) :
    Calls Try.prog 25 #[.int .i64 m, .pointer (some ⟨p1, 0, none⟩), .pointer (some ⟨p2, 0, none⟩), .pointer (some ⟨p3, 0, none⟩)] w fun e w' => e = .returned (.bool (dec xs o x m)) ∧ Below w.heap.size w w' := by
  have hcon := decide_any v xs o x m w h
  obtain ⟨a, c, rfl, _⟩ := h
  go_enter Try.func25, Try.ntmps25
  go_wp2_with fail
  refine hcon.mono ?_
  rintro e w' ⟨rfl, hb⟩
  clear h1 h2 h3
  go_wp2
  go_ret
  exact ⟨rfl, hb⟩
theorem eg_perms1 : ∀ args w, (callFunc 25 args).run Try.prog w = .ok (.enter 25 args) w := enters_of Try.func25 (by kernel_rfl) rfl

end Go.Proofs.Ytbmcfhojhngpkaa
