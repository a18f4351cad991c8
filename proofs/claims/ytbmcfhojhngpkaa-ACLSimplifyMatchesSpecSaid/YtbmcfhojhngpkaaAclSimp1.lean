/- neverDecides, and Simplify's own function. Conditions: the slice's cells lie in memory as they read. -/
import Derived.Test.YtbmcfhojhngpkaaAclPerms
import Derived.Deep.RegionHeld3
namespace Go.Proofs.Ytbmcfhojhngpkaa
open Go.RowKit

/-- Entry e decides permission m for user x: none of those before applies. -/
def need (e : Ent) (bs : List Ent) (m x : Int) : Bool := cov e x && !bs.any (app · x m)
/-- e never decides m: for none of the users 1 to 7. -/
def nev (e : Ent) (bs : List Ent) (m : Int) : Bool := (List.range 7).all fun i : Nat => !need e bs m ((i : Int) + 1)
theorem nev_hit {e : Ent} {bs : List Ent} {m x : Int} (h1 : 1 ≤ x) (h7 : x ≤ 7) (h : need e bs m x = true) : false = nev e bs m := by
  unfold nev
  symm
  rw [List.all_eq_false]
  refine ⟨(x - 1).toNat, by simp; omega, ?_⟩
  have e1 : (((x - 1).toNat : Nat) : Int) + 1 = x := by omega
  rw [e1, h]; simp
theorem nev_miss {e : Ent} {bs : List Ent} {m : Int} (h : ∀ x : Int, 1 ≤ x → x < 8 → need e bs m x = false) : true = nev e bs m := by
  unfold nev
  symm
  rw [List.all_eq_true]
  intro i hi
  have := List.mem_range.1 hi
  rw [h _ (by omega) (by omega)]; rfl

set_option maxHeartbeats 800000 in
theorem never_any (u a d m : Int) (v : Value) (bs : List Ent) (w : World) (h : Acls w w.heap.size v bs) :
    Calls Try.prog 27 #[.agg #[.int .i64 u, .int .i64 a, .int .i64 d], v, .int .i64 m] w fun e w' => e = .returned (.bool (nev ⟨u, a, d⟩ bs m)) ∧ Below w.heap.size w w' := by
  have H := Lib.hid h
  clear h
  go_enter Try.func27, Try.ntmps27
  go_wp2
  go_loopg [7] 8 (fun gg s7 wr => ∃ x : Int, 1 ≤ x ∧ x ≤ 8 ∧ (8 - x).toNat ≤ gg ∧ s7 = .int .i64 x ∧ Aside (Below w.heap.size w wr) ∧ Aside (w.heap.size < wr.heap.size ∧ wr.cell? ⟨w.heap.size, 0, none⟩ = some (.int .i64 u) ∧ wr.cell? ⟨w.heap.size, 1, none⟩ = some (.int .i64 a) ∧ wr.cell? ⟨w.heap.size, 2, none⟩ = some (.int .i64 d)) ∧ Aside (∀ y : Int, 1 ≤ y → y < x → need ⟨u, a, d⟩ bs m y = false))
  case atStart => exact ⟨1, by omega, by omega, by omega, rfl, (Below.refl _ _).alloc (Nat.le_refl _) _, (show _ ∧ _ from ⟨by simp, by simp, by simp, by simp⟩), fun y h1 h2 => absurd h1 (by omega)⟩
  case round =>
    obtain ⟨x, hx1, hx8, hg, rfl, BW, FB, A⟩ := hrel
    have hs := BW.out.size
    by_cases hlt : x < 8
    · have hle : x ≤ 7 := by omega
      have hcov := fun W => covers_any u a d x W
      cases hq : cov ⟨u, a, d⟩ x with
      | false =>
        rw [hq] at hcov
        have HN := Lib.hid (show need ⟨u, a, d⟩ bs m x = false by unfold need; rw [hq]; rfl)
        clear hq
        obtain ⟨l1, g0, g1, g2⟩ := FB.out
        go_wp2_with fail
        refine (hcov _).mono ?_
        rintro e w' ⟨rfl, hb'⟩
        have KB : Aside (w.heap.size < w'.heap.size ∧ w'.cell? ⟨w.heap.size, 0, none⟩ = some (.int .i64 u) ∧ w'.cell? ⟨w.heap.size, 1, none⟩ = some (.int .i64 a) ∧ w'.cell? ⟨w.heap.size, 2, none⟩ = some (.int .i64 d)) :=
          ⟨Nat.lt_of_lt_of_le l1 hb'.size, (hb'.cell (p := ⟨w.heap.size, 0, none⟩) l1).trans g0, (hb'.cell (p := ⟨w.heap.size, 1, none⟩) l1).trans g1, (hb'.cell (p := ⟨w.heap.size, 2, none⟩) l1).trans g2⟩
        have KW : Aside (Below w.heap.size w w') := BW.out.trans (hb'.mono hs)
        clear hb' g0 g1 g2 l1
        go_wp2_with fail
        go_roundg (8 - (x + 1)).toNat
        case measure => omega
        case rel =>
          refine ⟨x + 1, by omega, by omega, by omega, rfl, KW, KB, (show Aside _ from fun y h1 h2 => ?_)⟩
          by_cases e : y = x
          · subst e; exact HN.out
          · exact A.out y h1 (by omega)
      | true =>
        rw [hq] at hcov
        cases hz : bs.any (app · x m) with
        | true =>
          have HN := Lib.hid (show need ⟨u, a, d⟩ bs m x = false by unfold need; rw [hq, hz]; rfl)
          obtain ⟨l1, g0, g1, g2⟩ := FB.out
          go_wp2_with fail
          refine (hcov _).mono ?_
          rintro e w' ⟨rfl, hb'⟩
          have hs' := hb'.size
          have b2 := hb'.trans (((Below.refl _ w').alloc (Nat.le_refl _) (.cells #[.int .i64 x] 3)).alloc (by simp) (.cells #[.int .i64 m] 3) |>.mono hs')
          have BW2 : Below w.heap.size w ((w'.alloc (.cells #[.int .i64 x] 3)).alloc (.cells #[.int .i64 m] 3)) := BW.out.trans (b2.mono hs)
          have hhas := Lib.hid (hasEnts_any v bs x m w'.heap.size (w'.heap.size + 1) _ ((H.out.below BW2).more BW2.size) (by simp) (by simp) (by simp; omega) (by simp))
          rw [hz] at hhas
          go_wp2_with fail
          refine (applies_any _ _ _).mono ?_
          rintro e w2 ⟨rfl, rfl⟩
          go_wp2_with fail
          refine hhas.out.mono ?_
          rintro e w3 ⟨rfl, b3⟩
          have b4 := b2.trans (b3.mono (Nat.le_trans hs' (by simp; omega)))
          have KW : Aside (Below w.heap.size w w3) := BW2.trans (b3.mono BW2.size)
          have KB : Aside (w.heap.size < w3.heap.size ∧ w3.cell? ⟨w.heap.size, 0, none⟩ = some (.int .i64 u) ∧ w3.cell? ⟨w.heap.size, 1, none⟩ = some (.int .i64 a) ∧ w3.cell? ⟨w.heap.size, 2, none⟩ = some (.int .i64 d)) :=
            ⟨Nat.lt_of_lt_of_le l1 b4.size, (b4.cell (p := ⟨w.heap.size, 0, none⟩) l1).trans g0, (b4.cell (p := ⟨w.heap.size, 1, none⟩) l1).trans g1, (b4.cell (p := ⟨w.heap.size, 2, none⟩) l1).trans g2⟩
          clear hb' b2 b3 b4 BW2 hhas g0 g1 g2 l1 hz hq
          go_wp2_with fail
          go_roundg (8 - (x + 1)).toNat
          case measure => omega
          case rel =>
            refine ⟨x + 1, by omega, by omega, by omega, rfl, KW, KB, (show Aside _ from fun y h1 h2 => ?_)⟩
            by_cases e : y = x
            · subst e; exact HN.out
            · exact A.out y h1 (by omega)
        | false =>
          have HN := Lib.hid (nev_hit (e := ⟨u, a, d⟩) (bs := bs) (m := m) hx1 hle (by unfold need; rw [hq, hz]; rfl))
          obtain ⟨l1, g0, g1, g2⟩ := FB.out
          go_wp2_with fail
          refine (hcov _).mono ?_
          rintro e w' ⟨rfl, hb'⟩
          have hs' := hb'.size
          have b2 := hb'.trans (((Below.refl _ w').alloc (Nat.le_refl _) (.cells #[.int .i64 x] 3)).alloc (by simp) (.cells #[.int .i64 m] 3) |>.mono hs')
          have BW2 : Below w.heap.size w ((w'.alloc (.cells #[.int .i64 x] 3)).alloc (.cells #[.int .i64 m] 3)) := BW.out.trans (b2.mono hs)
          have hhas := Lib.hid (hasEnts_any v bs x m w'.heap.size (w'.heap.size + 1) _ ((H.out.below BW2).more BW2.size) (by simp) (by simp) (by simp; omega) (by simp))
          rw [hz] at hhas
          go_wp2_with fail
          refine (applies_any _ _ _).mono ?_
          rintro e w2 ⟨rfl, rfl⟩
          go_wp2_with fail
          refine hhas.out.mono ?_
          rintro e w3 ⟨rfl, b3⟩
          have b4 := b2.trans (b3.mono (Nat.le_trans hs' (by simp; omega)))
          have KW : Aside (Below w.heap.size w w3) := BW2.trans (b3.mono BW2.size)
          clear hb' b2 b3 b4 BW2 hhas g0 g1 g2 l1 hz hq
          go_wp2_with fail
          go_ret
          exact ⟨ret_bool HN.out, KW.out⟩
    · obtain rfl : x = 8 := by omega
      go_wp2_with fail
      go_ret
      exact ⟨ret_bool (nev_miss A.out), BW.out⟩

theorem Acls.take {w : World} {B : Nat} {a : Option Addr} {c : Nat} {xs : List Ent} (h : Acls w B (.slice a xs.length c) xs) {k : Nat} (hk : k ≤ xs.length) : Acls w B (.slice a k c) (xs.take k) := by
  obtain ⟨a', c', hv, hc, hl, hf, hx⟩ := h
  injection hv with h1 _ h2
  subst h1 h2
  have hlen : (xs.take k).length = k := by simp; omega
  refine ⟨a, c, by rw [hlen], by omega, by omega, fun e he => hf e (List.mem_of_mem_take he), fun h0 => ?_⟩
  obtain ⟨b, o, ha, hB, hj⟩ := hx (by omega)
  refine ⟨b, o, ha, hB, fun j h => ?_⟩
  have e : (xs.take k).getD j E0 = xs.getD j E0 := by
    rw [List.getD_eq_getElem?_getD, List.getD_eq_getElem?_getD, List.getElem?_take_of_lt (by omega)]
  rw [e]; exact hj j (by omega)

set_option maxHeartbeats 800000 in
theorem simp1_any (u a d m : Int) (av : Option Addr) (cv k : Nat) (xs : List Ent) (p1 p2 p3 : Nat) (w : World) (h : Acls w w.heap.size (.slice av xs.length cv) xs) (hk : k < xs.length)
    (h0 : w.cell? ⟨p1, 0, none⟩ = some (.int .i64 u)) (h1 : w.cell? ⟨p1, 1, none⟩ = some (.int .i64 a)) (h2 : w.cell? ⟨p1, 2, none⟩ = some (.int .i64 d)) (h3 : w.cell? ⟨p2, 0, none⟩ = some (.slice av xs.length cv)) (h4 : w.cell? ⟨p3, 0, none⟩ = some (.int .i64 (k : Int)))
    (l1 : p1 < w.heap.size) (l2 : p2 < w.heap.size) (l3 : p3 < w.heap.size) :
    Calls Try.prog 26 #[.int .i64 m, .pointer (some ⟨p1, 0, none⟩), .pointer (some ⟨p2, 0, none⟩), .pointer (some ⟨p3, 0, none⟩)] w fun e w' => e = .returned (.bool (nev ⟨u, a, d⟩ (xs.take k) m)) ∧ Below w.heap.size w w' := by
  have HT := Lib.hid (h.take (Nat.le_of_lt hk))
  obtain ⟨av', cv', hv, hc, hl, _, hx⟩ := h
  injection hv with q1 _ q2
  subst q1 q2
  obtain ⟨b, of, rfl, _, _⟩ := hx (by omega)
  have HC := Lib.hid (fun W (hb : Below w.heap.size w W) => never_any u a d m (.slice (some ⟨b, of, none⟩) k cv) (xs.take k) W ((HT.out.below hb).more hb.size))
  clear hx
  have hi0 : (0 : Int) ≤ (k : Int) := Int.natCast_nonneg _
  have hi1 : (k : Int) ≤ (xs.length : Int) := by omega
  have hi2 : (k : Int) ≤ (cv : Int) := by omega
  go_enter Try.func26, Try.ntmps26
  go_wp2_with fail
  go_region_held3 (fun w' => w'.cell? ⟨p1, 0, none⟩ = some (.int .i64 u) ∧ w'.cell? ⟨p1, 1, none⟩ = some (.int .i64 a) ∧ w'.cell? ⟨p1, 2, none⟩ = some (.int .i64 d) ∧ w'.cell? ⟨p2, 0, none⟩ = some (.slice (some ⟨b, of, none⟩) xs.length cv) ∧ w'.cell? ⟨p3, 0, none⟩ = some (.int .i64 (k : Int)))
    (first | go_keep | exact ⟨g0, g1, g2, g3, g4⟩)
    ((go_at_call 27; refine (HC.out _ ((Below.refl _ _).drew)).mono ?_; rintro e w2 ⟨rfl, hb2⟩; have hbw : Below w.heap.size w w2 := ((Below.refl _ _).drew).trans (hb2.mono (Nat.le_refl _)); have g0 := (hbw.cell (p := ⟨p1, 0, none⟩) l1).trans h0; have g1 := (hbw.cell (p := ⟨p1, 1, none⟩) l1).trans h1; have g2 := (hbw.cell (p := ⟨p1, 2, none⟩) l1).trans h2; have g3 := (hbw.cell (p := ⟨p2, 0, none⟩) l2).trans h3; have g4 := (hbw.cell (p := ⟨p3, 0, none⟩) l3).trans h4))
  all_goals
    clear g0 g1 g2 g3 g4 h0 h1 h2 h3 h4
    go_wp2
    go_ret
    exact ⟨rfl, hbw⟩
theorem eg_simp1 : ∀ args w, (callFunc 26 args).run Try.prog w = .ok (.enter 26 args) w := enters_of Try.func26 (by kernel_rfl) rfl

end Go.Proofs.Ytbmcfhojhngpkaa
