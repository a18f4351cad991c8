/- applies and the searches with it, decide: which entry decides a permission for a user. Conditions: the slice's cells lie in memory as they read. -/
import Derived.Test.YtbmcfhojhngpkaaAclSlice
namespace Go.Proofs.Ytbmcfhojhngpkaa
open Go.RowKit

/-- The entry applies to user x and permission m. -/
def app (e : Ent) (x m : Int) : Bool := cov e x && (bits .and .i64 (bits .or .i64 e.a e.d) m != 0)
theorem app_no {e : Ent} {x m : Int} (h : cov e x = false) : false = app e x m := by unfold app; rw [h]; rfl
theorem app_yes {e : Ent} {x m : Int} (h : cov e x = true) {b : Bool} (hb : b = (bits .and .i64 (bits .or .i64 e.a e.d) m != 0)) : b = app e x m := by unfold app; rw [h, hb]; rfl

set_option maxHeartbeats 400000 in
theorem applies1_any (u a d x m : Int) (p q : Nat) (w : World) (hp : w.cell? ⟨p, 0, none⟩ = some (.int .i64 x)) (hq : w.cell? ⟨q, 0, none⟩ = some (.int .i64 m)) (hp2 : p < w.heap.size) (hq2 : q < w.heap.size) :
    Calls Try.prog 35 #[.agg #[.int .i64 u, .int .i64 a, .int .i64 d], .pointer (some ⟨p, 0, none⟩), .pointer (some ⟨q, 0, none⟩)] w fun e w' => e = .returned (.bool (app ⟨u, a, d⟩ x m)) ∧ Below w.heap.size w w' := by
  have hcon := fun W => covers_any u a d x W
  cases hc : cov ⟨u, a, d⟩ x with
  | false =>
    rw [hc] at hcon
    have HC := Lib.hid hc
    clear hc
    go_enter Try.func35, Try.ntmps35
    go_wp2_with fail
    refine (hcon _).mono ?_
    rintro e w' ⟨rfl, hb'⟩
    have hB : Below w.heap.size w w' := ((Below.refl _ _).alloc (Nat.le_refl _) _).trans (hb'.mono (by simp))
    clear hb'
    go_wp2
    go_ret
    exact ⟨ret_bool (app_no HC.out), hB⟩
  | true =>
    rw [hc] at hcon
    have HC := Lib.hid hc
    clear hc
    go_enter Try.func35, Try.ntmps35
    go_wp2_with fail
    refine (hcon _).mono ?_
    rintro e w' ⟨rfl, hb'⟩
    have hB : Below w.heap.size w w' := ((Below.refl _ _).alloc (Nat.le_refl _) _).trans (hb'.mono (by simp))
    have k0 : w'.cell? ⟨q, 0, none⟩ = some (.int .i64 m) := (hB.cell (p := ⟨q, 0, none⟩) hq2).trans hq
    have k1 : w'.cell? ⟨w.heap.size, 1, none⟩ = some (.int .i64 a) := (hb'.cell (p := ⟨w.heap.size, 1, none⟩) (by simp)).trans (by simp)
    have k2 : w'.cell? ⟨w.heap.size, 2, none⟩ = some (.int .i64 d) := (hb'.cell (p := ⟨w.heap.size, 2, none⟩) (by simp)).trans (by simp)
    clear hb' hp hq
    go_wp2
    go_ret
    exact ⟨ret_bool (app_yes HC.out rfl), hB⟩

theorem applies_any (x m : Int) (w : World) :
    Calls Try.prog 31 #[.int .i64 x, .int .i64 m] w fun e w' => e = .returned (.func (.func 35) #[] #[.pointer (some ⟨w.heap.size, 0, none⟩), .pointer (some ⟨w.heap.size + 1, 0, none⟩)]) ∧ (w.alloc (.cells #[.int .i64 x] 3)).alloc (.cells #[.int .i64 m] 3) = w' := by
  go_enter Try.func31, Try.ntmps31
  go_wp2
  go_ret
  exact ⟨by simp, rfl⟩

/-- The place of the first entry of which P holds, or -1. -/
def fstI (P : Ent → Bool) (xs : List Ent) : Int := if xs.any P then xs.findIdx P else -1
theorem fstI_hit {P : Ent → Bool} {xs : List Ent} {k : Nat} (hk : k < xs.length) (hb : P (xs.getD k E0) = true) (hA : ∀ j, j < k → P (xs.getD j E0) = false) : (k : Int) = fstI P xs := by
  have hn : xs.any P = true := List.any_eq_true.2 ⟨xs[k], List.getElem_mem hk, by rw [← entD hk]; exact hb⟩
  have hf : xs.findIdx P = k := by
    rw [List.findIdx_eq hk]
    refine ⟨by rw [← entD hk, hb], fun j hj => ?_⟩
    rw [← entD (by omega), hA j hj]
  unfold fstI; rw [hn, hf]; simp
theorem fstI_miss {P : Ent → Bool} {xs : List Ent} (hA : ∀ j, j < xs.length → P (xs.getD j E0) = false) : -1 = fstI P xs := by
  have : xs.any P = false := by
    rw [List.any_eq_false]
    intro e he
    obtain ⟨j, hj, rfl⟩ := List.mem_iff_getElem.1 he
    rw [← entD hj, hA j hj]; simp
  unfold fstI; rw [this]; simp
theorem fstI_sign (P : Ent → Bool) (xs : List Ent) : decide (0 ≤ fstI P xs) = xs.any P := by
  unfold fstI
  cases h : xs.any P with
  | true => simp
  | false => simp
theorem fstI_cases (P : Ent → Bool) (xs : List Ent) : (fstI P xs = -1 ∧ ∀ e ∈ xs, P e = false) ∨ ∃ k, k < xs.length ∧ fstI P xs = (k : Int) ∧ P (xs.getD k E0) = true ∧ ∀ j, j < k → P (xs.getD j E0) = false := by
  cases h : xs.any P with
  | false =>
    left
    refine ⟨by unfold fstI; rw [h]; simp, fun e he => ?_⟩
    have := List.any_eq_false.1 h e he
    simpa using this
  | true =>
    right
    have hl : xs.findIdx P < xs.length := List.findIdx_lt_length_of_exists (by obtain ⟨e, he, hp⟩ := List.any_eq_true.1 h; exact ⟨e, he, hp⟩)
    refine ⟨xs.findIdx P, hl, by unfold fstI; rw [h]; simp, ?_, fun j hj => ?_⟩
    · rw [entD hl]; exact List.findIdx_getElem
    · rw [entD (by omega)]
      have := List.not_of_lt_findIdx hj
      simpa using this

theorem eg_applies1 : ∀ args w, (callFunc 35 args).run Try.prog w = .ok (.enter 35 args) w := enters_of Try.func35 (by kernel_rfl) rfl

set_option maxHeartbeats 400000 in
theorem idxEnts_any (v : Value) (xs : List Ent) (x m : Int) (p q : Nat) (w : World) (h : Acls w w.heap.size v xs) (hp : w.cell? ⟨p, 0, none⟩ = some (.int .i64 x)) (hq : w.cell? ⟨q, 0, none⟩ = some (.int .i64 m)) (hp2 : p < w.heap.size) (hq2 : q < w.heap.size) :
    Calls Try.prog 30 #[v, .func (.func 35) #[] #[.pointer (some ⟨p, 0, none⟩), .pointer (some ⟨q, 0, none⟩)]] w fun e w' => e = .returned (.int .i64 (fstI (app · x m) xs)) ∧ Below w.heap.size w w' := by
  obtain ⟨a, c, rfl, hc, hl, hf, hx⟩ := h
  have eg := eg_applies1
  have HP := Lib.hid hp
  have HQ := Lib.hid hq
  clear hf hp hq
  go_enter Try.func30, Try.ntmps30
  go_wp2
  go_loopg [5, 8] xs.length (fun gg _ s8 wr => ∃ kk : Nat, kk ≤ xs.length ∧ xs.length - kk ≤ gg ∧ s8 = .int .i64 kk ∧ Aside (Below w.heap.size w wr) ∧ Aside (∀ j, j < kk → app (xs.getD j E0) x m = false))
  case atStart => exact ⟨0, Nat.zero_le _, by omega, rfl, Below.refl _ _, fun j hj => absurd hj (Nat.not_lt_zero _)⟩
  case round =>
    obtain ⟨kk, hkk, hg, rfl, BW, A⟩ := hrel
    by_cases hlt : kk < xs.length
    · have hltz : (kk : Int) < (xs.length : Int) := by omega
      obtain ⟨b, o, rfl, hb, hj⟩ := hx (by omega)
      have g0 : wr.cell? ⟨b, o + kk * 3, none⟩ = some (.int .i64 (xs.getD kk E0).u) := (BW.out.cell (p := ⟨b, _, none⟩) hb).trans (hj kk hlt).1
      have g1 : wr.cell? ⟨b, o + kk * 3 + 1, none⟩ = some (.int .i64 (xs.getD kk E0).a) := (BW.out.cell (p := ⟨b, _, none⟩) hb).trans (hj kk hlt).2.1
      have g2 : wr.cell? ⟨b, o + kk * 3 + 2, none⟩ = some (.int .i64 (xs.getD kk E0).d) := (BW.out.cell (p := ⟨b, _, none⟩) hb).trans (hj kk hlt).2.2
      have gp : wr.cell? ⟨p, 0, none⟩ = some (.int .i64 x) := (BW.out.cell (p := ⟨p, _, none⟩) hp2).trans HP.out
      have gq : wr.cell? ⟨q, 0, none⟩ = some (.int .i64 m) := (BW.out.cell (p := ⟨q, _, none⟩) hq2).trans HQ.out
      clear hx hj
      generalize hy : xs.getD kk E0 = y at g0 g1 g2
      obtain ⟨u, a, d⟩ := y
      have Y : Aside (xs.getD kk E0 = ⟨u, a, d⟩) := hy
      clear hy
      have hcall := applies1_any u a d x m p q wr gp gq (by have := BW.out.size; omega) (by have := BW.out.size; omega)
      clear gp gq
      cases hz : app ⟨u, a, d⟩ x m with
      | true =>
        rw [hz] at hcall
        have Z : Aside (app ⟨u, a, d⟩ x m = true) := hz
        clear hz
        go_wp2_with (go_at_fn 35; refine hcall.mono ?_; rintro e w' ⟨rfl, hb'⟩)
        go_ret
        exact ⟨ret_int (fstI_hit (P := (app · x m)) hlt (by rw [Y.out]; exact Z.out) A.out), BW.out.trans (hb'.mono BW.out.size)⟩
      | false =>
        rw [hz] at hcall
        have Z : Aside (app ⟨u, a, d⟩ x m = false) := hz
        clear hz
        go_wp2_with (go_at_fn 35; refine hcall.mono ?_; rintro e w' ⟨rfl, hb'⟩)
        go_roundg (xs.length - (kk + 1))
        case measure => omega
        case rel =>
          refine ⟨kk + 1, by omega, by omega, by go_num, BW.out.trans (hb'.mono BW.out.size), (show Aside _ from fun j hj => ?_)⟩
          by_cases e : j = kk
          · subst e
            rw [Y.out]; exact Z.out
          · exact A.out j (by omega)
    · have hltz : ¬ (kk : Int) < (xs.length : Int) := by omega
      have e : kk = xs.length := by omega
      have E : Aside (kk = xs.length) := e
      clear e hx
      go_wp2
      go_ret
      exact ⟨ret_int (fstI_miss (P := (app · x m)) fun j hj => A.out j (by have := E.out; omega)), BW.out⟩

set_option maxHeartbeats 400000 in
theorem hasEnts_any (v : Value) (xs : List Ent) (x m : Int) (p q : Nat) (w : World) (h : Acls w w.heap.size v xs) (hp : w.cell? ⟨p, 0, none⟩ = some (.int .i64 x)) (hq : w.cell? ⟨q, 0, none⟩ = some (.int .i64 m)) (hp2 : p < w.heap.size) (hq2 : q < w.heap.size) :
    Calls Try.prog 33 #[v, .func (.func 35) #[] #[.pointer (some ⟨p, 0, none⟩), .pointer (some ⟨q, 0, none⟩)]] w fun e w' => e = .returned (.bool (xs.any (app · x m))) ∧ Below w.heap.size w w' := by
  have hcon := idxEnts_any v xs x m p q w h hp hq hp2 hq2
  have HS := Lib.hid (fstI_sign (app · x m) xs)
  generalize fstI (app · x m) xs = i at *
  clear h hp hq
  go_enter Try.func33, Try.ntmps33
  go_wp2_with (go_at_call 30; refine hcon.mono ?_; rintro e w' ⟨rfl, hb⟩)
  go_ret
  exact ⟨ret_bool HS.out, hb⟩

/-- Whether user x of a thing of owner o has permission m by the list: the first entry that applies decides. -/
def decL : List Ent → Int → Int → Int → Bool
  | [], o, x, _ => decide (x = o)
  | e :: l, o, x, m => if app e x m then (bits .and .i64 e.a m != 0) else decL l o x m
theorem decL_miss {o x m : Int} : ∀ {xs : List Ent}, (∀ e ∈ xs, app e x m = false) → decL xs o x m = decide (x = o)
  | [], _ => rfl
  | e :: l, h => by
    unfold decL
    rw [if_neg (by rw [h e (by simp)]; simp)]
    exact decL_miss fun e' he => h e' (by simp [he])
theorem decL_hit {o x m : Int} : ∀ {xs : List Ent} {k : Nat}, k < xs.length → app (xs.getD k E0) x m = true → (∀ j, j < k → app (xs.getD j E0) x m = false) → decL xs o x m = (bits .and .i64 (xs.getD k E0).a m != 0)
  | [], _, h, _, _ => absurd h (by simp)
  | e :: l, 0, _, hb, _ => by
    simp at hb ⊢
    unfold decL; rw [if_pos hb]
  | e :: l, k + 1, h, hb, hA => by
    have h0 := hA 0 (by omega)
    simp at h0
    unfold decL
    rw [if_neg (by rw [h0]; simp), decL_hit (k := k) (by simpa using h) (by simpa using hb) (fun j hj => by simpa using hA (j + 1) (by omega))]
    simp
def dec (xs : List Ent) (o x m : Int) : Bool := if x = 0 then true else decL xs o x m
theorem dec_zero (xs : List Ent) (o m : Int) : true = dec xs o 0 m := by unfold dec; rw [if_pos rfl]
theorem dec_of {xs : List Ent} {o x m : Int} (h : ¬ x = 0) {b : Bool} (hb : b = decL xs o x m) : b = dec xs o x m := by unfold dec; rw [if_neg h, hb]

set_option maxHeartbeats 400000 in
theorem decide_any (v : Value) (xs : List Ent) (o x m : Int) (w : World) (h : Acls w w.heap.size v xs) :
    Calls Try.prog 23 #[v, .int .i64 o, .int .i64 x, .int .i64 m] w fun e w' => e = .returned (.bool (dec xs o x m)) ∧ Below w.heap.size w w' := by
  by_cases hx0 : x = 0
  · subst hx0
    clear h
    go_enter Try.func23, Try.ntmps23
    go_wp2
    go_ret
    exact ⟨ret_bool (dec_zero xs o m), Below.refl _ _⟩
  · have hx1 : (x == 0) = false := by simpa using hx0
    have H0 := Lib.hid hx0
    have hcon := fun W h1 h2 h3 h4 h5 => idxEnts_any v xs x m w.heap.size (w.heap.size + 1) W h1 h2 h3 h4 h5
    have HA := Lib.hid h
    have hfc := fstI_cases (app · x m) xs
    generalize fstI (app · x m) xs = i at hcon hfc
    have HC := Lib.hid hcon
    clear hcon hx0
    rcases hfc with ⟨rfl, hm⟩ | ⟨k, hk, rfl, hb, hlow⟩
    · have HM := Lib.hid (decL_miss (o := o) hm)
      clear hm h
      go_enter Try.func23, Try.ntmps23
      go_wp2_with fail
      refine (applies_any _ _ _).mono ?_
      rintro e w' ⟨rfl, rfl⟩
      go_wp2_with fail
      refine (HC.out _ ((HA.out.below (((Below.refl _ _).alloc (Nat.le_refl _) _).alloc (by simp) _)).more (by simp; omega)) (by simp) (by simp) (by simp; omega) (by simp)).mono ?_
      rintro e w' ⟨rfl, hb'⟩
      have hB : Below w.heap.size w w' := (((Below.refl _ _).alloc (Nat.le_refl _) _).alloc (by simp) _).trans (hb'.mono (by simp; omega))
      clear hb'
      go_wp2
      go_ret
      exact ⟨ret_bool (dec_of H0.out (by rw [HM.out]; first | rfl | (rw [Bool.eq_iff_iff]; simp))), hB⟩
    · have HH := Lib.hid (decL_hit (o := o) hk hb hlow)
      obtain ⟨a, c, rfl, hc, hl, hf, hx⟩ := h
      obtain ⟨b, of, rfl, hbb, hj⟩ := hx (by omega)
      have g1 := (hj k hk).2.1
      clear hb hlow hf hx hj
      generalize hy : xs.getD k E0 = y at g1
      obtain ⟨u, a, d⟩ := y
      have Y : Aside (xs.getD k E0 = ⟨u, a, d⟩) := hy
      have G1 := Lib.hid g1
      have hk2 : (k : Int) < (xs.length : Int) := by omega
      clear hy g1
      go_enter Try.func23, Try.ntmps23
      go_wp2_with fail
      refine (applies_any _ _ _).mono ?_
      rintro e w' ⟨rfl, rfl⟩
      go_wp2_with fail
      refine (HC.out _ ((HA.out.below (((Below.refl _ _).alloc (Nat.le_refl _) _).alloc (by simp) _)).more (by simp; omega)) (by simp) (by simp) (by simp; omega) (by simp)).mono ?_
      rintro e w' ⟨rfl, hb'⟩
      have hB : Below w.heap.size w w' := (((Below.refl _ _).alloc (Nat.le_refl _) _).alloc (by simp) _).trans (hb'.mono (by simp; omega))
      have k1 : w'.cell? ⟨b, of + k * 3 + 1, none⟩ = some (.int .i64 a) := (hB.cell (p := ⟨b, _, none⟩) hbb).trans G1.out
      clear hb'
      go_wp2
      go_ret
      exact ⟨ret_bool (dec_of H0.out (by rw [HH.out, Y.out])), hB⟩

end Go.Proofs.Ytbmcfhojhngpkaa
