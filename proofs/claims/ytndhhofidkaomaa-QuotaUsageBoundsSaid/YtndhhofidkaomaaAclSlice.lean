/- Validate at every access control list: too many entries, or the first bad entry's code and place. Conditions: the slice's cells lie in memory as they read. -/
import Derived.Test.YtndhhofidkaomaaAclLeaves

set_option linter.all false
namespace Go.Proofs.Ytndhhofidkaomaa
open Go.RowKit

/-- The slice value v reads as the entries xs, all of it below block B. -/
def Acls (w : World) (B : Nat) (v : Value) (xs : List Ent) : Prop :=
  ∃ a c, v = .slice a xs.length c ∧ xs.length ≤ c ∧ xs.length ≤ 5864062014805 ∧ (∀ e ∈ xs, e.fits) ∧
    (0 < xs.length → ∃ b o, a = some ⟨b, o, none⟩ ∧ b < B ∧ ∀ j, j < xs.length →
      w.cell? ⟨b, o + j * 3, none⟩ = some (.int .i64 (xs.getD j E0).u) ∧ w.cell? ⟨b, o + j * 3 + 1, none⟩ = some (.int .i64 (xs.getD j E0).a) ∧ w.cell? ⟨b, o + j * 3 + 2, none⟩ = some (.int .i64 (xs.getD j E0).d))
theorem Acls.keep {w w' : World} {B : Nat} {v : Value} {xs : List Ent} (h : Acls w B v xs) (hk : ∀ b o, b < B → w'.cell? ⟨b, o, none⟩ = w.cell? ⟨b, o, none⟩) : Acls w' B v xs := by
  obtain ⟨a, c, hv, hc, hl, hf, hx⟩ := h
  refine ⟨a, c, hv, hc, hl, hf, fun h0 => ?_⟩
  obtain ⟨b, o, ha, hB, hj⟩ := hx h0
  refine ⟨b, o, ha, hB, fun j h => ?_⟩
  rw [hk _ _ hB, hk _ _ hB, hk _ _ hB]
  exact hj j h
theorem Acls.below {w w' : World} {B : Nat} {v : Value} {xs : List Ent} (h : Acls w B v xs) (hb : Below B w w') : Acls w' B v xs :=
  h.keep fun b o hB => hb.cell (p := ⟨b, o, none⟩) hB
theorem Acls.more {w : World} {B B' : Nat} {v : Value} {xs : List Ent} (h : Acls w B v xs) (hB : B ≤ B') : Acls w B' v xs := by
  obtain ⟨a, c, hv, hc, hl, hf, hx⟩ := h
  refine ⟨a, c, hv, hc, hl, hf, fun h0 => ?_⟩
  obtain ⟨b, o, ha, hb, hj⟩ := hx h0
  exact ⟨b, o, ha, by omega, hj⟩
theorem Acls.alloc {w : World} {B : Nat} {v : Value} {xs : List Ent} (h : Acls w B v xs) (hB : B ≤ w.heap.size) (o : Obj) : Acls (w.alloc o) B v xs :=
  h.below ((Below.refl B w).alloc hB o)
theorem entD {xs : List Ent} {k : Nat} (h : k < xs.length) : xs.getD k E0 = xs[k] := by
  rw [List.getD_eq_getElem?_getD, List.getElem?_eq_getElem h]; rfl
theorem Acls.none_ (w : World) (B : Nat) : Acls w B (.slice none 0 0) [] :=
  ⟨none, 0, rfl, by simp, by simp, by simp, fun h => absurd h (by simp)⟩
theorem acls_one (w : World) (n : Nat) (hn : n = w.heap.size) (e : Ent) (hf : e.fits) (t : TypeId) : Acls (w.alloc (.cells #[.int .i64 e.u, .int .i64 e.a, .int .i64 e.d] t)) (w.heap.size + 1) (.slice (some ⟨n, 0, none⟩) 1 1) [e] := by
  subst hn
  refine ⟨_, _, rfl, by simp, by simp, by simpa using hf, fun _ => ⟨_, _, rfl, by simp, ?_⟩⟩
  intro j hj
  match j, hj with
  | 0, _ => simp

/-- The first fault of the entries from number i on. -/
def scanF : List Ent → Nat → Int × Int
  | [], _ => (0, 0)
  | e :: l, i => if codeE e = 0 then scanF l (i + 1) else (codeE e, i)
theorem scan_hit : ∀ (l : List Ent) (i k : Nat), k < l.length → codeE (l.getD k E0) ≠ 0 → (∀ j, j < k → codeE (l.getD j E0) = 0) → scanF l i = (codeE (l.getD k E0), ((i + k : Nat) : Int))
  | [], _, _, h, _, _ => absurd h (by simp)
  | e :: l, i, 0, _, hc, _ => by simp at hc ⊢; unfold scanF; rw [if_neg hc]
  | e :: l, i, k + 1, h, hc, hA => by
    have h0 := hA 0 (by omega)
    simp at h0
    unfold scanF
    rw [if_pos h0, scan_hit l (i + 1) k (by simpa using h) (by simpa using hc) (fun j hj => by simpa using hA (j + 1) (by omega))]
    simp; omega
theorem scan_miss : ∀ (l : List Ent) (i : Nat), (∀ j, j < l.length → codeE (l.getD j E0) = 0) → scanF l i = (0, 0)
  | [], _, _ => rfl
  | e :: l, i, hA => by
    have h0 := hA 0 (by simp)
    simp at h0
    unfold scanF
    rw [if_pos h0, scan_miss l (i + 1) (fun j hj => by simpa using hA (j + 1) (by simpa using hj))]
/-- The fault of a list. -/
def valF (xs : List Ent) : Int × Int := if 6 < xs.length then (2, 0) else scanF xs 0
def valV (xs : List Ent) : Value := faultV (valF xs).1 (valF xs).2
theorem valV_many {xs : List Ent} (h : 6 < xs.length) : faultV 2 0 = valV xs := by unfold valV valF; rw [if_pos h]
theorem valV_hit {xs : List Ent} (h : ¬ 6 < xs.length) {k : Nat} {c : Int} (hk : k < xs.length) (hc : codeE (xs.getD k E0) = c) (hn : ¬ c = 0) (hA : ∀ j, j < k → codeE (xs.getD j E0) = 0) : faultV c k = valV xs := by
  unfold valV valF; rw [if_neg h, scan_hit xs 0 k hk (by rw [hc]; exact hn) hA, hc]; simp
theorem valV_miss {xs : List Ent} (h : ¬ 6 < xs.length) (hA : ∀ j, j < xs.length → codeE (xs.getD j E0) = 0) : faultV 0 0 = valV xs := by
  unfold valV valF; rw [if_neg h, scan_miss xs 0 hA]

set_option maxHeartbeats 400000 in
theorem validate_any (v : Value) (xs : List Ent) (w : World) (h : Acls w w.heap.size v xs) :
    Calls Try.prog 44 #[v] w fun e w' => e = .returned (valV xs) ∧ Below w.heap.size w w' := by
  obtain ⟨a, c, rfl, hc, hl, hf, hx⟩ := h
  by_cases h6 : 6 < xs.length
  · have hm := Lib.hid (valV_many h6)
    clear hx hf
    go_enter Try.func44, Try.ntmps44
    go_wp2
    exact bodyPost_ret (v := faultV 2 0) (by simp [results, Try.results44, faultV, go_sem]) rfl ⟨by rw [hm.out], (Below.refl _ _).alloc (Nat.le_refl _) _⟩
  · have H6 := Lib.hid h6
    have h62 : xs.length ≤ 6 := by omega
    have h6b : decide ((6 : Int) < (xs.length : Int)) = false := by simp; omega
    clear hf h6
    go_enter Try.func44, Try.ntmps44
    go_wp2
    go_loopg [3, 4, 5, 12] xs.length (fun gg _ _ _ s12 wr => ∃ kk : Nat, kk ≤ xs.length ∧ xs.length - kk ≤ gg ∧ s12 = .int .i64 kk ∧ Aside (Below w.heap.size w wr) ∧ Aside (FBox wr w.heap.size 0 0) ∧ Aside (∀ j, j < kk → codeE (xs.getD j E0) = 0))
    case atStart => exact ⟨0, Nat.zero_le _, by omega, rfl, (Below.refl _ _).alloc (Nat.le_refl _) _, FBox.new w 0 0 _, fun j hj => absurd hj (Nat.not_lt_zero _)⟩
    case round =>
      obtain ⟨kk, hkk, hg, rfl, BW, FB, A⟩ := hrel
      by_cases hlt : kk < xs.length
      · have hltz : (kk : Int) < (xs.length : Int) := by omega
        obtain ⟨b, o, rfl, hb, hj⟩ := hx (by omega)
        have g0 : wr.cell? ⟨b, o + kk * 3, none⟩ = some (.int .i64 (xs.getD kk E0).u) := (BW.out.cell (p := ⟨b, _, none⟩) hb).trans (hj kk hlt).1
        have g1 : wr.cell? ⟨b, o + kk * 3 + 1, none⟩ = some (.int .i64 (xs.getD kk E0).a) := (BW.out.cell (p := ⟨b, _, none⟩) hb).trans (hj kk hlt).2.1
        have g2 : wr.cell? ⟨b, o + kk * 3 + 2, none⟩ = some (.int .i64 (xs.getD kk E0).d) := (BW.out.cell (p := ⟨b, _, none⟩) hb).trans (hj kk hlt).2.2
        clear hx hj
        generalize hy : xs.getD kk E0 = y at g0 g1 g2
        obtain ⟨u, a, d⟩ := y
        have Y : Aside (xs.getD kk E0 = ⟨u, a, d⟩) := hy
        clear hy
        have hcall := fun W => checkEntry_any u a d W
        generalize hq : codeE ⟨u, a, d⟩ = q at hcall
        have Q := Lib.hid hq
        clear hq
        go_wp2_with fail
        refine (hcall _).mono ?_
        rintro e w' ⟨rfl, hb'⟩
        have hB1 : Below w.heap.size w w' := (BW.out.alloc BW.out.size _).trans (hb'.mono (by have := BW.out.size; simp; omega))
        have FB1 := Lib.hid ((FB.out.alloc _).below hb' (by have := FB.out.lt; simp; omega))
        clear hb'
        by_cases hq0 : q = 0
        · subst hq0
          go_wp2
          go_roundg (xs.length - (kk + 1))
          case measure => omega
          case rel =>
            refine ⟨kk + 1, by omega, by omega, by go_num, hB1, FB1.out, (show Aside _ from fun j hj => ?_)⟩
            by_cases e : j = kk
            · subst e
              rw [Y.out]; exact Q.out
            · exact A.out j (by omega)
        · have hq1 : (q == 0) = false := by simpa using hq0
          have hq2 : (q != 0) = true := by simpa using hq0
          have HQ := Lib.hid hq0
          clear hq0
          obtain ⟨l1, a0, a1, k0, k1⟩ := FB1.out
          go_wp2
          exact bodyPost_ret (v := faultV q kk) (by simp [results, Try.results44, faultV, go_sem, a0, a1]) rfl ⟨by rw [valV_hit H6.out hlt (by rw [Y.out]; exact Q.out) HQ.out A.out], (hB1.setCell (by simp) _).setCell (by simp) _⟩
      · have hltz : ¬ (kk : Int) < (xs.length : Int) := by omega
        have e : kk = xs.length := by omega
        have E : Aside (kk = xs.length) := e
        clear e hx
        obtain ⟨l1, a0, a1, k0, k1⟩ := FB.out
        go_wp2
        exact bodyPost_ret (v := faultV 0 0) (by simp [results, Try.results44, faultV, go_sem, a0, a1]) rfl ⟨by rw [valV_miss H6.out fun j hj => A.out j (by have := E.out; omega)], (BW.out.setCell (by simp) _).setCell (by simp) _⟩

end Go.Proofs.Ytndhhofidkaomaa
