/- The law ACLPermissionsMatchesSpec returns true at every list and owner. Conditions: the slice's cells lie in memory as they read. -/
import Derived.Test.YtbmcfhojhngpkaaAclPermissions
import Derived.Test.YtbmcfhojhngpkaaAclLawAllowed
namespace Go.Proofs.Ytbmcfhojhngpkaa
open Go.RowKit

theorem Ints.form {w : World} {B n : Nat} {v : Value} {zs : List Int} (h : Ints w B v zs) (hn : zs.length = n) :
    ∃ a c, v = .slice a n c ∧ n ≤ c ∧ (0 < n → ∃ b o, a = some ⟨b, o, none⟩ ∧ b < B ∧ ∀ j, j < n → w.cell? ⟨b, o + j, none⟩ = some (.int .i64 (zs.getD j 0))) := by
  subst hn
  obtain ⟨a, c, hv, hc, _, hx⟩ := h
  exact ⟨a, c, hv, hc, hx⟩
/-- The k-th value of the reference's loop: a permission, 16 at the end. -/
def pmx (k : Nat) : Int := [1, 2, 4, 8, 16].getD k 0
theorem pmx_facts {k : Nat} (h : k < 4) : prm (pmx k) = true ∧ 1 ≤ pmx k ∧ pmx k ≤ 8 ∧ pmx (k + 1) = 2 * pmx k ∧ pmx k = pm k := by
  match k, h with
  | 0, _ => decide
  | 1, _ => decide
  | 2, _ => decide
  | 3, _ => decide
/-- The sum of the first k permissions of which p holds. -/
def psum (p : Int → Bool) : Nat → Int
  | 0 => 0
  | k + 1 => if p (pmx k) then psum p k + pmx k else psum p k
theorem psum_yes {p : Int → Bool} {k : Nat} (h : p (pmx k) = true) : psum p (k + 1) = psum p k + pmx k := by
  conv => lhs; unfold psum
  rw [if_pos h]
theorem psum_no {p : Int → Bool} {k : Nat} (h : p (pmx k) = false) : psum p (k + 1) = psum p k := by
  conv => lhs; unfold psum
  rw [if_neg (by rw [h]; simp)]
theorem psum_bd (p : Int → Bool) : ∀ k, k ≤ 4 → 0 ≤ psum p k ∧ psum p k ≤ 8 * k
  | 0, _ => by unfold psum; simp
  | k + 1, h => by
    have ih := psum_bd p k (by omega)
    obtain ⟨_, h1, h2, _, _⟩ := pmx_facts (k := k) (by omega)
    cases hp : p (pmx k) with
    | true => rw [psum_yes hp]; omega
    | false => rw [psum_no hp]; omega
theorem psum_pw (p : Int → Bool) : psum p 4 = pw p 4 := by
  have e0 : pm 0 = 1 := rfl
  have e1 : pm 1 = 2 := rfl
  have e2 : pm 2 = 4 := rfl
  have e3 : pm 3 = 8 := rfl
  have f0 : pmx 0 = 1 := rfl
  have f1 : pmx 1 = 2 := rfl
  have f2 : pmx 2 = 4 := rfl
  have f3 : pmx 3 = 8 := rfl
  simp only [psum, pw, e0, e1, e2, e3, f0, f1, f2, f3]
  cases p 1 <;> cases p 2 <;> cases p 4 <;> cases p 8 <;> decide +kernel
theorem permsOf_get {xs : List Ent} {o : Int} (h : usrF xs o 0 = (0, 0)) {u : Nat} (hu : u < 8) : (permsOf xs o).getD u 0 = pw (dec xs o (u : Int)) 4 := by
  rw [permsOf_ok h, List.getD_eq_getElem?_getD, List.getElem?_eq_getElem (by simpa using hu)]
  simp

set_option maxHeartbeats 1600000 in
theorem lawPerms_any (v : Value) (xs : List Ent) (o : Int) (w : World) (h : Acls w w.heap.size v xs) :
    Calls Try.prog 5 #[v, .int .i64 o] w fun e w' => e = .returned (.bool true) ∧ Below w.heap.size w w' := by
  have c1 := permissions_any v xs o w h
  have c2 := fun W (hb : Below w.heap.size w W) => userFault_any v xs o 0 W ((h.below hb).more hb.size)
  have c3 := fun W m x (hb : Below w.heap.size w W) => refAllowed_any v xs o x m W _ (h.below hb)
  have hfit : ∀ e ∈ xs, e.fits := by obtain ⟨_, _, _, _, _, hf, _⟩ := h; exact hf
  clear h
  have C1 := Lib.hid c1
  clear c1
  generalize hu : usrF xs o 0 = p at c2
  obtain ⟨c, i⟩ := p
  have C2 := Lib.hid c2
  clear c2
  by_cases hc : c = 0
  · subst hc
    have hz := usrF_zero (xs := xs) (o := o) (x := 0) (by rw [hu])
    obtain rfl : i = 0 := by have := hz.1; rw [hu] at this; injection this
    have hok : ∀ e ∈ xs, Ok e := fun e he => ok_of (hfit e he) ((valF_ok hz.2).2 e he)
    have C3 : Hid (∀ W m x, prm m = true → Below w.heap.size w W → Calls Try.prog 14 #[v, .int .i64 o, .int .i64 x, .int .i64 m] W fun e w' => e = .returned (.bool (dec xs o x m)) ∧ W = w') := Lib.hid (fun W m x hm hb => by
      have := c3 W m x hb
      rwa [decR_eq hm hok] at this)
    have HU := Lib.hid hu
    clear c3 hfit hu hz hok
    go_enter Try.func5, Try.ntmps5
    go_wp2_with fail
    refine C1.out.mono ?_
    rintro e w1 ⟨v', rfl, hi, b1⟩
    rw [HU.out]
    obtain ⟨a, c', rfl, hc', hx⟩ := hi.form (n := 8) (by rw [permsOf_ok HU.out]; simp)
    clear hi
    have HXX := Lib.hid hx
    clear hx
    go_wp2_with fail
    refine (C2.out _ (b1.alloc b1.size _)).mono ?_
    rintro e w2 ⟨rfl, b2⟩
    have B2 : Below w.heap.size w w2 := (b1.alloc b1.size _).trans (b2.mono (by have := b1.size; simp; omega))
    have X1 := (FBox.new w1 0 0 24).below b2 (by simp)
    have HI : Hid (∀ u : Nat, u < 8 → ∃ b of, a = some ⟨b, of, none⟩ ∧ (w2.alloc (.cells #[.int .i64 0, .int .i64 0] 24)).cell? ⟨b, of + u, none⟩ = some (.int .i64 (psum (dec xs o (u : Int)) 4))) := Lib.hid (fun u hu => by
      obtain ⟨b, of, ha, hb, hj⟩ := HXX.out (by omega)
      refine ⟨b, of, ha, ?_⟩
      rw [psum_pw, ← permsOf_get HU.out hu, ← hj u hu]
      have hbb : Below w1.heap.size w1 (w2.alloc (.cells #[.int .i64 0, .int .i64 0] 24)) := (((Below.refl _ _).alloc (Nat.le_refl _) _).trans (b2.mono (by simp))).alloc (by have := b2.size; simp at this; omega) _
      exact hbb.cell (p := ⟨b, of + u, none⟩) hb)
    obtain ⟨l1, a0, a1, k0, k1⟩ := X1
    clear HXX b1 b2
    have BB := Lib.hid (B2.alloc B2.size (.cells #[.int .i64 0, .int .i64 0] 24))
    go_wp2_with fail
    go_loop [8, 9, 10] (fun s8 _ _ => ∃ u : Nat, u ≤ 8 ∧ s8 = .int .i64 u) (fun s8 _ _ => 8 - (intOf s8).toNat)
    case atStart => exact ⟨0, by omega, rfl⟩
    case round =>
      obtain ⟨u, hu, rfl⟩ := hrel
      by_cases hlt : u < 8
      · have hltz : (u : Int) < 8 := by omega
        go_wp2_with fail
        go_loop [9, 10] (fun s9 s10 => ∃ k : Nat, k ≤ 4 ∧ s10 = .int .i64 (pmx k) ∧ s9 = .int .i64 (psum (dec xs o (u : Int)) k)) (fun _ s10 => 16 - (intOf s10).toNat)
        case atStart => exact ⟨0, by omega, rfl, rfl⟩
        case round =>
          obtain ⟨k, hk, rfl, rfl⟩ := hrel
          have hpb := psum_bd (dec xs o (u : Int)) k hk
          by_cases hkl : k < 4
          · obtain ⟨q0, q1, q2, q3, q4⟩ := pmx_facts hkl
            have hy := @psum_yes (dec xs o (u : Int)) k
            have hn := @psum_no (dec xs o (u : Int)) k
            have hcall := C3.out _ (pmx k) (u : Int) q0 BB.out
            have Q3 := Lib.hid q3
            clear q0 q3 q4
            generalize psum (dec xs o (u : Int)) k = acc at *
            generalize pmx k = m at *
            cases hq : dec xs o (u : Int) m with
            | true =>
              rw [hq] at hcall
              have HY := Lib.hid (hy hq)
              clear hq hy hn
              go_wp2_with fail
              refine hcall.mono ?_
              rintro e w' ⟨rfl, rfl⟩
              go_wp2_with fail
              go_round
              case rel => exact ⟨k + 1, by omega, by rw [Q3.out], by rw [HY.out]⟩
              case measure => simp [intOf]; omega
            | false =>
              rw [hq] at hcall
              have HN := Lib.hid (hn hq)
              clear hq hy hn
              go_wp2_with fail
              refine hcall.mono ?_
              rintro e w' ⟨rfl, rfl⟩
              go_wp2_with fail
              go_round
              case rel => exact ⟨k + 1, by omega, by rw [Q3.out], by rw [HN.out]⟩
              case measure => simp [intOf]; omega
          · obtain rfl : k = 4 := by omega
            obtain ⟨b, of, rfl, hcell⟩ := HI.out u hlt
            have e16 : pmx 4 = 16 := rfl
            rw [e16]
            clear e16 HI
            generalize psum (dec xs o (u : Int)) 4 = acc at *
            go_wp2_with fail
            go_round
            case rel => exact ⟨u + 1, by omega, by go_num⟩
            case measure => simp [intOf]; omega
      · obtain rfl : u = 8 := by omega
        go_wp2_with fail
        go_ret
        exact ⟨rfl, BB.out⟩
  · have HU := Lib.hid hu
    have HC := Lib.hid hc
    have hc1 : (c != 0) = true := by simpa using hc
    have hc2 : (c == 0) = false := by simpa using hc
    clear c3 hfit hu hc
    go_enter Try.func5, Try.ntmps5
    go_wp2_with fail
    refine C1.out.mono ?_
    rintro e w1 ⟨v', rfl, hi, b1⟩
    rw [HU.out]
    obtain ⟨a, c', rfl, hc', hx⟩ := hi.form (n := 0) (by unfold permsOf; rw [HU.out, if_neg HC.out]; rfl)
    clear hi hx
    go_wp2_with fail
    refine (C2.out _ (b1.alloc b1.size _)).mono ?_
    rintro e w2 ⟨rfl, b2⟩
    have B2 : Below w.heap.size w w2 := (b1.alloc b1.size _).trans (b2.mono (by have := b1.size; simp; omega))
    have X1 := (FBox.new w1 c i 24).below b2 (by simp)
    obtain ⟨l1, a0, a1, k0, k1⟩ := X1
    clear b1 b2
    go_wp2_with fail
    go_ret
    exact ⟨by first | rfl | simp, B2.alloc B2.size _⟩

end Go.Proofs.Ytbmcfhojhngpkaa
