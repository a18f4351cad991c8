/- QuotaExceededMatchesSpec: quota.Exceeded returns what the reference returns, or the reference's fault; the argument is left as it was.
   Condition: as each theorem states; this text: QtLawExc, QtExcProof. -/
import Derived.Test.YtndhhofidkaomaaQb11
import Derived.Test.YtndhhofidkaomaaQb9
import Derived.Test.YtndhhofidkaomaaQb10
import Derived.BigQuiet
import Derived.Test.YtndhhofidkaomaaRows
import Derived.Test.YtndhhofidkaomaaQb4
import Derived.Test.YtndhhofidkaomaaQb6
import Derived.ProofKit
import Derived.SizedLaws
import Derived.OpenShut
import Derived.ShutString
import Derived.ChangeMaps5

set_option linter.all false

/- The law QuotaExceededMatchesSpec returns true at every tree, file number and size. Conditions: the tree's cells lie in memory as they read, its files' bytes too. -/

set_option linter.all false
namespace Go.Proofs.Ytndhhofidkaomaa
open Go.RowKit

theorem One.drewNR {w : World} {n : Nat} {v : Value} (h : One w n v) (k : Nat) : One (w.drewN k) n v := ⟨h.lt, h.c0, h.f0⟩
/-- Two rows of the same ints, nil where there are none. -/
theorem rowsInts_any (v u : Value) (L : List Int) (w w0 : World) (b1 b2 n1 n2 : Nat) (h1 : w.ownsRow b1 3 1 v n1 (intL L)) (h2 : w.ownsRow b2 3 1 u n2 (intL L)) (hL : L.length ≤ 1000) :
    Calls Try.prog 14 #[v, u] w fun e w' => e = .returned (.bool true) ∧ ∃ q, w' = w.drewN q := by
  obtain ⟨rfl, k1⟩ := int_row h1
  obtain ⟨rfl, k2⟩ := int_row h2
  by_cases h0 : L = []
  · subst h0
    have f1 : ∃ a c, v = .slice a 0 c := by
      rcases k1 with ⟨rfl, _⟩ | ⟨g, cap, rfl, _⟩
      · exact ⟨_, _, rfl⟩
      · exact ⟨_, _, rfl⟩
    have f2 : ∃ a c, u = .slice a 0 c := by
      rcases k2 with ⟨rfl, _⟩ | ⟨g, cap, rfl, _⟩
      · exact ⟨_, _, rfl⟩
      · exact ⟨_, _, rfl⟩
    obtain ⟨a1, c1, rfl⟩ := f1
    obtain ⟨a2, c2, rfl⟩ := f2
    clear h1 h2 k1 k2
    go_enter Try.func14, Try.ntmps14
    go_wp2
    go_loopg [5] 0 (fun gg s5 wr => s5 = .int .i64 0 ∧ w = wr)
    case atStart => exact ⟨rfl, rfl⟩
    case round =>
      obtain ⟨rfl, rfl⟩ := hrel
      go_wp2_with fail
      go_ret
      exact ⟨rfl, 0, rfl⟩
  · rcases k1 with ⟨_, h9⟩ | ⟨g1, c1, rfl, _, _, x1⟩
    · exact absurd h9 h0
    rcases k2 with ⟨_, h9⟩ | ⟨g2, c2, rfl, _, _, x2⟩
    · exact absurd h9 h0
    exact intsSame_any g1 0 c1 g2 0 c2 L.length (fun j => L.getD j 0) w hL (fun j hj => by rw [Nat.zero_add]; exact x1 j hj) (fun j hj => by rw [Nat.zero_add]; exact x2 j hj)

/-- What the law keeps of Exceeded's answer: nil where there is a fault, or else the row. -/
def ExcV (q : Int) (L : List Int) (w : World) (v : Value) : Prop := (q ≠ 0 ∧ v = .slice none 0 0) ∨ (q = 0 ∧ ∃ B, w.ownsRow B 3 1 v L.length (intL L))
theorem ExcV.below {q : Int} {L : List Int} {w z : World} {v : Value} (h : ExcV q L w v) (hb : Below w.heap.size w z) : ExcV q L z v := by
  rcases h with h | ⟨h0, B, h1⟩
  · exact .inl h
  · exact .inr ⟨h0, B, own_below h1 hb⟩
theorem ExcV.form {q : Int} {L : List Int} {w : World} {v : Value} (h : ExcV q L w v) : ∃ a n c, v = .slice a n c := by
  rcases h with ⟨_, rfl⟩ | ⟨_, B, h1⟩
  · exact ⟨_, _, _, rfl⟩
  · obtain ⟨a, c, rfl⟩ := own_formQ h1; exact ⟨_, _, _, rfl⟩
theorem excV_any (a : Option Addr) (c : Nat) (t : Tr) (n size : Int) (w : World) (h : Nods w w.heap.size a c t) :
    Calls Try.prog 11 #[.agg #[.slice a t.length c], .int .i64 n, .int .i64 size] w fun e w' => ∃ v, e = .returned (.tuple #[v, .agg #[.int .i64 (fileF t n size).1, .int .i64 (fileF t n size).2]]) ∧ ExcV (fileF t n size).1 (exL t n.toNat (size - (nod t n.toNat).dl) t.length) w' v ∧ Below w.heap.size w w' := by
  refine (exceeded_any a c t n size w h).mono ?_
  rintro e w' (⟨h1, h2, h3⟩ | ⟨h1, v, h2, h3, h4⟩)
  · exact ⟨_, h2, .inl ⟨h1, rfl⟩, h3⟩
  · exact ⟨v, by rw [(fileF_zero h1).2.2.2.2]; exact h2, .inr ⟨h1, _, h3⟩, h4⟩

set_option maxRecDepth 100000 in
set_option maxHeartbeats 6400000 in
theorem lawExc_any (a : Option Addr) (c : Nat) (t : Tr) (n size : Int) (w : World) (h : DNods w w.heap.size a c t) :
    Calls Try.prog 4 #[.agg #[.slice a t.length c], .int .i64 n, .int .i64 size] w fun e w' => e = .returned (.bool true) ∧ Below w.heap.size w w' := by
  have C1 := Lib.hid (fun W (hb : Below w.heap.size w W) => excV_any a c t n size W (h.nd.up hb))
  have C2 := Lib.hid (fun W (hb : Below w.heap.size w W) => refFile_any a c t n size W (h.nd.up hb))
  have T0 := Lib.hid (One.new w (.slice a t.length c) 24)
  have B0 := Lib.hid ((Below.refl w.heap.size w).alloc (Nat.le_refl _) (.cells #[.slice a t.length c] 24))
  have HV := Lib.hid (fun (h0 : (fileF t n size).1 = 0) => (show (fileF t n size).2 = 0 ∧ (exL t n.toNat (size - (nod t n.toNat).dl) t.length).length ≤ 1000 ∧ ∀ W, Below w.heap.size w W → Calls Try.prog 15 #[.agg #[.slice a t.length c], .int .i64 n, .int .i64 size] W fun e w' => ∃ v, e = .returned v ∧ w'.ownsRow W.heap.size 3 1 v (exL t n.toNat (size - (nod t n.toNat).dl) t.length).length (intL (exL t n.toNat (size - (nod t n.toNat).dl) t.length)) ∧ Below W.heap.size W w' from by
    obtain ⟨hv, ⟨m, rfl, hm, hk⟩, hs0, hs1, hz⟩ := fileF_zero h0
    obtain ⟨hd, p4⟩ := valT_ok hv
    obtain ⟨s, rfl⟩ := Int.eq_ofNat_of_zero_le hs0
    rw [Int.toNat_natCast]
    exact ⟨by rw [hz], by have := exL_len t m ((s : Int) - (nod t m).dl) t.length; have := hd.le; omega, fun W hb => refExc_any a c t m s W hd p4 hm hk (by omega) (h.up hb)⟩))
  unfold faultV at C2
  clear h
  generalize exL t n.toNat (size - (nod t n.toNat).dl) t.length = L at *
  generalize (fileF t n size).1 = q at *
  generalize (fileF t n size).2 = r at *
  go_enter Try.func4, Try.ntmps4
  go_wp2_with fail
  refine (C1.out _ B0.out).mono ?_
  rintro e W1 ⟨v, rfl, hv1, b1⟩
  obtain ⟨va, vn, vc, rfl⟩ := hv1.form
  have T1 := Lib.hid ((T0.out.below b1 T0.out.lt).alloc (.cells #[.int .i64 q, .int .i64 r] 27))
  have F1 := Lib.hid (FBox.new W1 q r 27)
  have B1 := Lib.hid ((B0.out.trans (b1.mono B0.out.size)).alloc (Nat.le_trans B0.out.size b1.size) (.cells #[.int .i64 q, .int .i64 r] 27))
  have V1 := Lib.hid (hv1.below ((Below.refl W1.heap.size W1).alloc (Nat.le_refl _) (.cells #[.int .i64 q, .int .i64 r] 27)))
  have tc := (T0.out.below b1 T0.out.lt).c0
  have tl := (T0.out.below b1 T0.out.lt).lt
  clear b1 hv1
  go_wp2_with fail
  refine (C2.out _ B1.out).mono ?_
  rintro e W2 ⟨rfl, b2⟩
  have T2 := Lib.hid ((T1.out.below b2 T1.out.lt).alloc (.cells #[.int .i64 q, .int .i64 r] 27))
  have F2 := Lib.hid ((F1.out.below b2 F1.out.lt).alloc (.cells #[.int .i64 q, .int .i64 r] 27))
  have X2 := Lib.hid (FBox.new W2 q r 27)
  have B2 := Lib.hid ((B1.out.trans (b2.mono B1.out.size)).alloc (Nat.le_trans B1.out.size b2.size) (.cells #[.int .i64 q, .int .i64 r] 27))
  have V2 := Lib.hid ((V1.out.below b2).below ((Below.refl W2.heap.size W2).alloc (Nat.le_refl _) (.cells #[.int .i64 q, .int .i64 r] 27)))
  clear b2 tc tl T0 T1 F1 B0 B1 C2 C1 V1
  go_wp2_with fail
  refine (sample_any _).mono ?_
  rintro e W3 ⟨sb, rfl, hn3, b3⟩
  have T3 := Lib.hid (T2.out.below b3 T2.out.lt)
  have F3 := Lib.hid (F2.out.below b3 F2.out.lt)
  have X3 := Lib.hid (X2.out.below b3 X2.out.lt)
  have B3 := Lib.hid (B2.out.trans (b3.mono B2.out.size))
  have V3 := Lib.hid (V2.out.below b3)
  have HE := Lib.hid (use_sample_any sb W3 hn3)
  clear b3 hn3 T2 F2 X2 B2 V2
  go_wp2_with fail
  refine HE.out.mono ?_
  rintro e W4 ⟨R, rfl, hrow, b4⟩
  have BN := Lib.hid (show Below W4.heap.size W4 ((W4.alloc (.cells #[.int .i64 0, .int .i64 0] 27)).alloc (.cells #[.int .i64 3, .int .i64 3, .int .i64 3] 3)) from ((Below.refl _ _).alloc (Nat.le_refl _) _).alloc (by first | omega | (simp; done) | (simp; omega)) _)
  have T4 := Lib.hid ((T3.out.below b4 T3.out.lt).below BN.out (by have := (T3.out.below b4 T3.out.lt).lt; exact this))
  have F4 := Lib.hid ((F3.out.below b4 F3.out.lt).below BN.out (by have := (F3.out.below b4 F3.out.lt).lt; exact this))
  have X4 := Lib.hid ((X3.out.below b4 X3.out.lt).below BN.out (by have := (X3.out.below b4 X3.out.lt).lt; exact this))
  have B4 := Lib.hid ((B3.out.trans (b4.mono B3.out.size)).trans (BN.out.mono (Nat.le_trans B3.out.size b4.size)))
  have V4 := Lib.hid ((V3.out.below b4).below BN.out)
  have HI := Lib.hid (intsSame_any R 0 3 (W4.heap.size + 1) 0 3 3 (fun _ => 3) ((W4.alloc (.cells #[.int .i64 0, .int .i64 0] 27)).alloc (.cells #[.int .i64 3, .int .i64 3, .int .i64 3] 3)) (by decide) (fun j hj => by rw [Nat.zero_add]; exact (BN.out.cell (p := ⟨R, j, none⟩) hrow.lt).trans (hrow.c j hj)) (fun j hj => by
    rw [Nat.zero_add]
    match j, hj with
    | 0, _ => exact new_cell (by simp) rfl
    | 1, _ => exact new_cell (by simp) rfl
    | 2, _ => exact new_cell (by simp) rfl))
  clear b4 hrow HE T3 F3 X3 B3 V3
  go_wp2_with fail
  refine HI.out.mono ?_
  rintro e _ ⟨rfl, q5, rfl⟩
  have T5 := Lib.hid (T4.out.drewNQ q5)
  have F5 := Lib.hid (F4.out.drewNQ q5)
  have X5 := Lib.hid (X4.out.drewNQ q5)
  have B5 := Lib.hid (below_drewN B4.out q5)
  have V5 := Lib.hid (V4.out.below (below_drewN (Below.refl _ _) q5))
  clear T4 F4 X4 B4 HI BN V4
  generalize World.drewN ((W4.alloc (.cells #[.int .i64 0, .int .i64 0] 27)).alloc (.cells #[.int .i64 3, .int .i64 3, .int .i64 3] 3)) q5 = W5 at *
  obtain ⟨l8, t0, t1⟩ := T5.out
  obtain ⟨fl, f0, f1, fz0, fz1⟩ := F5.out
  obtain ⟨xl, x0, x1, xz0, xz1⟩ := X5.out
  have K1 := V5.out
  unfold ExcV at K1
  clear V5
  by_cases hq : q = 0
  · obtain ⟨hr, hLl, hC⟩ := HV.out hq
    rcases K1 with ⟨h0, _⟩ | ⟨_, R1, r1⟩
    · exact absurd hq h0
    subst hq hr
    have HC := Lib.hid (hC _ B5.out)
    have HR1 := Lib.hid r1
    clear HV hC r1
    go_wp2_with fail
    refine HC.out.mono ?_
    rintro e W6 ⟨u, rfl, hu, b6⟩
    have HS := Lib.hid (rowsInts_any (.slice va vn vc) u L W6 W6 _ _ _ _ (own_below HR1.out b6) hu hLl)
    have B6 := Lib.hid (B5.out.trans (b6.mono B5.out.size))
    obtain ⟨ua, uc, rfl⟩ := own_formQ hu
    clear b6 hu HR1
    go_wp2_with fail
    refine HS.out.mono ?_
    rintro e _ ⟨rfl, q7, rfl⟩
    go_wp2
    go_ret
    exact ⟨rfl, below_drewN B6.out _⟩
  · have hq1 : (q != 0) = true := by simpa using hq
    rcases K1 with ⟨_, h9⟩ | ⟨h0, _⟩
    case inr => exact absurd h0 hq
    injection h9 with h91 h92 h93
    subst h91 h92 h93
    clear hq HV
    go_wp2
    go_ret
    exact ⟨rfl, B5.out⟩

end Go.Proofs.Ytndhhofidkaomaa

/- QuotaExceededMatchesSpec: for every tree, file number and size, quota.Exceeded returns the fault that the reference's ValidateFile returns and no directory, or without a fault the directories that the reference's Exceeded returns; the argument is left as it was.
   No condition: every such input, nil slices too. -/

set_option linter.all false
namespace Go.Proofs.Ytndhhofidkaomaa.rowQuotaExceededMatchesSpec
open Go.ChangeShapes Go.WideShapes Go.ChangeAt Go.ChangeMaps Go.RowKit

theorem own : ownKnob Try.prog.godebug = none := by kernel_rfl
theorem laidOut : laidOutB Try.prog = true := by kernel_rfl

set_option maxRecDepth 100000 in
theorem lifted (os : Os) (started : os.Started) (H : Type) (enc : TypeId × Value → H) :
    ReturnsInHanded {} Try.checked os 4 .any (Rows.quotaExceededMatchesSpecSpec.pre6 enc Try.prog Try.f4 Rows.quotaExceededMatchesSpecRow.domain false) (Rows.quotaExceededMatchesSpecSpec.post enc Try.prog Try.f4 false true false false) := by
  refine returnsInHanded_of_change_sized (C := Try.checked) own started (by kernel_rfl) Try.func4
    (ChangeSpec.witness6 (enc := enc) (C := Try.checked) false ⟨#[], #[.agg #[.slice none 0 0], .int .i64 0, .int .i64 0], []⟩ 8 (by kernel_rfl) (by kernel_rfl) (by kernel_rfl) (by kernel_rfl)) ?_
  intro W base args ds gs before hval0 hW _ hsz0 _
  have hsz : (DataW.weightsEach Try.prog (Try.f4.params.toList ++ Rows.quotaExceededMatchesSpecSpec.plain.varTypes Try.prog) (ds ++ gs)).all (· ≤ reachBytes) = true := hsz0
  clear hsz0
  have hval : ∀ (j : Nat) t v, Try.f4.params[j]? = some t → args[j]? = some v → Value.okWide Try.prog W .any base t v := hval0
  have hW' := hW
  obtain ⟨p, q, hA0, hV, rfl, _, _⟩ := hW
  have hA : DataW.TrodAll enc Try.prog W 0 (fun _ => true) true Try.f4.params.toList args.toList ds p := hA0
  rw [Try.params4] at hA hval hsz
  clear hA0 hval0
  obtain ⟨v0, t0, d0, e0, p0, q0, ar0, rfl, rfl, h0, r0⟩ := trodAll_cons hA
  obtain ⟨v1, t1, d1, e1, p1, q1, ar1, rfl, rfl, h1, r1⟩ := trodAll_cons r0
  obtain ⟨v2, t2, d2, e2, p2, q2, ar2, rfl, rfl, h2, r2⟩ := trodAll_cons r1
  obtain ⟨rfl, rfl, rfl⟩ := trodAll_nil r2
  subst ar2
  subst ar1
  obtain rfl : args = #[v0, v1, v2] := by cases args; simp_all
  clear ar0
  obtain ⟨rfl, rfl⟩ := trodVars_none hV
  obtain ⟨w0, rfl, _⟩ := okWide_struct tree_under (hval 0 24 v0 rfl rfl)
  have k0 := h0
  obtain ⟨fuel0, f0⟩ := h0
  have hw0 : Held Try.prog 24 d0 := fun n hn => by
    have := List.all_eq_true.1 hsz _ (DataW.weights_mem_each (j := 0) (t := 24) rfl rfl n hn)
    simpa using this
  obtain ⟨a0, c0, u0, hxz0, hS0⟩ := dtree_of f0 hw0
  obtain rfl : w0 = #[.slice a0 u0.length c0] := by cases w0; simp [Value.cells] at hxz0; simp [hxz0]
  clear hxz0
  obtain ⟨n1, rfl, rfl, rfl, w1⟩ := open_int Try.underlying3 (hval 1 3 v1 rfl rfl) h1
  obtain ⟨n2, rfl, rfl, rfl, w2⟩ := open_int Try.underlying3 (hval 2 3 v2 rfl rfl) h2
  try simp only [List.append_nil] at hW'
  have hlt : ∀ x ∈ p0 ++ ([] ++ ([] ++ ([]))), x.block < W.heap.size := fun x hx => hW'.lt x (by first | exact hx | simpa using hx)
  have fin : ∀ W', Below W.heap.size W W' → Rows.quotaExceededMatchesSpecSpec.post enc Try.checked.prog Try.f4 false true false false W #[.agg #[.slice a0 u0.length c0], .int .i64 n1, .int .i64 n2] (.bool true) W' := by
    intro W' hnx
    refine ⟨_, _, _, [] ++ [], p0 ++ ([] ++ ([] ++ ([]))), [], hW', ?_, ?_, rfl, hnx.frame _, fun h => by cases h⟩
    · exact trodAll_mk1 (shut_bool Try.underlying4 true)
    · exact trodAll_cons_mk (Below.trod laidOut (by kernel_rfl) (of_decide_eq_true (by kernel_rfl)) k0 hnx (fun x hx => hlt x (by simp [hx]))) (trodAll_cons_mk (shut_int Try.underlying3 w1) (trodAll_cons_mk (shut_int Try.underlying3 w2) (trodAll_mk0)))
  refine (lawExc_any a0 c0 u0 n1 n2 W hS0.dnods).mono fun e W' ⟨he, hnx⟩ => ?_
  subst he
  exact ⟨_, rfl, fin W' hnx⟩

theorem holds : Rows.QuotaExceededMatchesSpecSaid :=
  OpenClaim.holds_of_wide 4 Try.f4 rfl rfl rfl rfl rfl rfl rfl ⟨rfl, rfl, rfl, rfl, rfl⟩ rfl rfl rfl rfl rfl (by kernel_rfl) Try.func4 (by kernel_rfl)
    (of_decide_eq_true (by kernel_rfl)) (by unfold Func.isWrapper; first | (rw [if_pos (by decide +kernel)]; kernel_rfl) | (rw [if_neg (by decide +kernel)]; exact ⟨rfl, rfl⟩))
    (fun os started H enc _ => lifted os started H enc)

end Go.Proofs.Ytndhhofidkaomaa.rowQuotaExceededMatchesSpec
