/- pathCheck: what the walk marks, and the function that pathCheck returns. Conditions: the tree's directories are referred to once; its cells lie in memory as they read. -/
import Derived.Test.YtndhhofidkaomaaFsCells
import Derived.Laws.EntriesVeiled

set_option linter.all false
namespace Go.Proofs.Ytndhhofidkaomaa
open Go.RowKit

/-- The two rows that the walk marks, and the variables that hold them. -/
structure PMark (W : World) (m p3 p4 R1 R2 : Nat) (L : List Vis) : Prop where
  r1 : Row W R1 m (fun j => .bool (hasL L j))
  r2 : Row W R2 m (fun j => .bool (farL L j))
  v1 : One W p3 (.slice (some ⟨R1, 0, none⟩) m m)
  v2 : One W p4 (.slice (some ⟨R2, 0, none⟩) m m)
theorem PMark.below {W W' : World} {m p3 p4 R1 R2 B : Nat} {L : List Vis} (h : PMark W m p3 p4 R1 R2 L) (hb : Below B W W') (h1 : R1 < B) (h2 : R2 < B) (h3 : p3 < B) (h4 : p4 < B) : PMark W' m p3 p4 R1 R2 L :=
  ⟨h.r1.below hb h1, h.r2.below hb h2, h.v1.below hb h3, h.v2.below hb h4⟩
theorem Strs.setLow {W : World} {B : Nat} {v : Value} {xs : List ByteArray} (h : Strs W B v xs) {H0 : Nat} (hv : ∀ q, v.ownBlock = some q → H0 ≤ q) {p : Addr} (hp : p.block < H0) (u : Value) : Strs (W.setCell p u) B v xs := by
  obtain ⟨a, c, rfl, hc, hl, hs, hx⟩ := h
  refine ⟨a, c, rfl, hc, hl, hs, fun h0 => ?_⟩
  obtain ⟨b, o, rfl, hB, hj⟩ := hx h0
  have := hv b rfl
  exact ⟨b, o, rfl, hB, fun j hjl => (World.cell?_setCell_other W p _ u (fun e => by rw [e] at hp; simp at hp; omega)).trans (hj j hjl)⟩
theorem Kept.set {S : Nat → Prop} {a b : World} {row : Option Nat} (h : Kept S row a b) {R i : Nat} (hS : S R) (u : Value) : Kept S row a (b.setCell ⟨R, i, none⟩ u) :=
  h.trans ⟨rfl, rfl, rfl, by simp, fun k _ hs _ => Below.heap_setCell b _ u k (fun e => hs (by rw [e]; exact hS))⟩

set_option maxRecDepth 100000 in
set_option maxHeartbeats 1600000 in
theorem pathMark_any (m p3 p4 R1 R2 H0 : Nat) (d1 : R1 < p3) (d2 : p3 < R2) (d3 : R2 < p4) (d4 : p4 < H0) (W : World) (L : List Vis) (xs : List ByteArray) (n : Nat) (v : Value) (hH : H0 ≤ W.heap.size) (h : PMark W m p3 p4 R1 R2 L) (hn : n < m) (_hm : m ≤ 40) (hx : Strs W W.heap.size v xs) (hv : ∀ q, v.ownBlock = some q → H0 ≤ q) :
    Calls Try.prog 49 #[v, .int .i64 (n : Int), .pointer (some ⟨p3, 0, none⟩), .pointer (some ⟨p4, 0, none⟩)] W fun e W' => e = .returned (.tuple #[]) ∧ PMark W' m p3 p4 R1 R2 (L ++ [(xs, n)]) ∧ Kept (fun b => b = R1 ∨ b = R2) none W W' := by
  have nlz : (n : Int) < (m : Int) := by omega
  have nz : (0 : Int) ≤ (n : Int) := Int.natCast_nonneg _
  have HC := Lib.hid (pathJoin_any v xs (W.setCell ⟨R1, n, none⟩ (.bool true)) (by simpa using hx.setLow hv (p := ⟨R1, n, none⟩) (by simp; omega) (.bool true)))
  have HT := Lib.hid (show tooFar xs = decide ((joinF xs).1 ≠ 0) from rfl)
  unfold joinV faultV at HC
  generalize joinS xs = S at *
  generalize (joinF xs).2 = ji at *
  generalize (joinF xs).1 = jc at *
  have c1 := h.v1.c0
  have rc := h.r1.c n hn
  have rz := h.r1.fz n
  have rl := h.r1.lt
  have M1 := Lib.hid (show Row (W.setCell ⟨R1, n, none⟩ (.bool true)) R1 m (fun j => .bool (hasL (L ++ [(xs, n)]) j)) ∧ Row (W.setCell ⟨R1, n, none⟩ (.bool true)) R2 m (fun j => .bool (farL L j)) ∧ One (W.setCell ⟨R1, n, none⟩ (.bool true)) p3 (.slice (some ⟨R1, 0, none⟩) m m) ∧ One (W.setCell ⟨R1, n, none⟩ (.bool true)) p4 (.slice (some ⟨R2, 0, none⟩) m m) from
    ⟨(h.r1.put hn (.bool true)).ext (fun j _ => by
      rw [hasL_snoc]
      by_cases e : j = n
      · subst e; simp
      · rw [if_neg e, decide_eq_false (fun h => e h.symm), Bool.or_false]), h.r2.far (by simp; omega) _, h.v1.far (by simp; omega) _, h.v2.far (by simp; omega) _⟩)
  clear hx h
  have hl9 : R2 < W.heap.size := by omega
  have hl8 : p4 < W.heap.size := by omega
  have hl7 : p3 < W.heap.size := by omega
  by_cases hj : jc = 0
  · subst hj
    have HF := Lib.hid (show ∀ j, farL (L ++ [(xs, n)]) j = farL L j from fun j => by rw [farL_snoc]; simp only; rw [HT.out]; simp)
    go_enter Try.func49, Try.ntmps49
    go_wp2_with fail
    refine HC.out.mono ?_
    rintro e W2 ⟨rfl, b2⟩
    have s2 := b2.size
    simp only [World.size_setCell] at s2
    have MM := Lib.hid (show PMark (W2.alloc (.cells #[.int .i64 0, .int .i64 ji] 27)) m p3 p4 R1 R2 (L ++ [(xs, n)]) from
      ⟨(M1.out.1.below b2 M1.out.1.lt).alloc _, ((M1.out.2.1.below b2 M1.out.2.1.lt).ext (fun j _ => by rw [HF.out])).alloc _, (M1.out.2.2.1.below b2 M1.out.2.2.1.lt).alloc _, (M1.out.2.2.2.below b2 M1.out.2.2.2.lt).alloc _⟩)
    have KK := Lib.hid (show Kept (fun b => b = R1 ∨ b = R2) none W (W2.alloc (.cells #[.int .i64 0, .int .i64 ji] 27)) from
      (((Kept.refl _ _ _).set (.inl rfl) _).trans (Kept.of_below b2)).trans (Kept.of_below ((Below.refl _ _).alloc (Nat.le_refl _) _)))
    clear b2
    go_wp2
    go_end0
    exact ⟨rfl, MM.out, KK.out⟩
  · have hj1 : (jc != 0) = true := by simpa using hj
    have hj2 : (jc == 0) = false := by simpa using hj
    have HF := Lib.hid (show ∀ j, (if j = n then Value.bool true else Value.bool (farL L j)) = .bool (farL (L ++ [(xs, n)]) j) from fun j => by
      rw [farL_snoc]
      simp only
      rw [HT.out]
      by_cases e : j = n
      · subst e; simp [hj]
      · rw [if_neg e, decide_eq_false (fun h => e h.symm), Bool.false_and, Bool.or_false])
    clear hj
    go_enter Try.func49, Try.ntmps49
    go_wp2_with fail
    refine HC.out.mono ?_
    rintro e W2 ⟨rfl, b2⟩
    have s2 := b2.size
    simp only [World.size_setCell] at s2
    have c2 := ((M1.out.2.2.2.below b2 M1.out.2.2.2.lt)).c0
    have X2 := Lib.hid (M1.out.2.1.below b2 M1.out.2.1.lt)
    have rc2 := X2.out.c n hn
    have rz2 := X2.out.fz n
    have rl2 := X2.out.lt
    have hl2 : p4 < W2.heap.size := by omega
    have MM := Lib.hid (show PMark ((W2.setCell ⟨R2, n, none⟩ (.bool true)).alloc (.cells #[.int .i64 jc, .int .i64 ji] 27)) m p3 p4 R1 R2 (L ++ [(xs, n)]) from
      ⟨((M1.out.1.below b2 M1.out.1.lt).far (by simp; omega) _).alloc _, ((X2.out.put hn _).ext (fun j _ => HF.out j)).alloc _, ((M1.out.2.2.1.below b2 M1.out.2.2.1.lt).far (by simp; omega) _).alloc _, ((M1.out.2.2.2.below b2 M1.out.2.2.2.lt).far (by simp; omega) _).alloc _⟩)
    have KK := Lib.hid (show Kept (fun b => b = R1 ∨ b = R2) none W ((W2.setCell ⟨R2, n, none⟩ (.bool true)).alloc (.cells #[.int .i64 jc, .int .i64 ji] 27)) from
      ((((Kept.refl _ _ _).set (.inl rfl) _).trans (Kept.of_below b2)).set (.inr rfl) _).trans (Kept.of_below ((Below.refl _ _).alloc (Nat.le_refl _) _)))
    clear b2
    go_wp2
    go_end0
    exact ⟨rfl, MM.out, KK.out⟩

set_option maxRecDepth 100000 in
set_option maxHeartbeats 800000 in
theorem pathCheck2_any (a : Option Addr) (c : Nat) (t : Tr) (n pt p3 p4 R1 R2 : Nat) (w : World) (h : Nods w w.heap.size a c t) (hp : One w pt (.slice a t.length c)) (hM : PMark w t.length p3 p4 R1 R2 (visits t 0)) (hn : n < t.length) :
    Calls Try.prog 51 #[.int .i64 (n : Int), .pointer (some ⟨pt, 0, none⟩), .pointer (some ⟨p3, 0, none⟩), .pointer (some ⟨p4, 0, none⟩)] w fun e w' => e = .returned (.int .i64 (codeP t n)) ∧ Below w.heap.size w w' := by
  have nlz : (n : Int) < (t.length : Int) := by omega
  have nz : (0 : Int) ≤ (n : Int) := Int.natCast_nonneg _
  have HU := Lib.hid (isUsed_any a c t (n : Int) w h)
  have hu : used t (n : Int) = decide ((nod t n).k ≠ 0) := by
    rw [used_at nz nlz, Int.toNat_natCast, Bool.eq_iff_iff]; simp
  have HF := Lib.hid (show codeP t n = if (nod t n).k ≠ 0 ∧ hasL (visits t 0) n = false then 11 else if farL (visits t 0) n = true then 10 else 0 from rfl)
  rw [hu] at HU
  have hpc := hp.c0
  have hpl := hp.lt
  have c1 := hM.v1.c0
  have c2 := hM.v2.c0
  have r1 := hM.r1.c n hn
  have r2 := hM.r2.c n hn
  have l1 := hM.v1.lt
  have l2 := hM.v2.lt
  have l3 := hM.r1.lt
  have l4 := hM.r2.lt
  clear h hp hM hu
  generalize codeP t n = r at *
  generalize hasL (visits t 0) n = x at *
  generalize farL (visits t 0) n = y at *
  generalize (nod t n).k = k at *
  have post : ∀ (x y : Bool) (u : Bool) (r : Int), r = (if u = true ∧ x = false then 11 else if y = true then 10 else 0) → True := fun _ _ _ _ _ => trivial
  clear post
  by_cases hk : k ≠ 0
  · rw [decide_eq_true hk] at HU
    cases x with
    | false =>
      rw [if_pos ⟨hk, rfl⟩] at HF
      clear hk
      go_enter Try.func51, Try.ntmps51
      go_wp2_with fail
      refine HU.out.mono ?_
      rintro e w2 ⟨rfl, b2⟩
      have k1 := (b2.cell (p := ⟨p3, 0, none⟩) l1).trans c1
      have k2 := (b2.cell (p := ⟨R1, n, none⟩) l3).trans r1
      have B2 := Lib.hid b2
      clear b2
      go_wp2
      go_ret
      exact ⟨ret_int HF.out.symm, B2.out⟩
    | true =>
      rw [if_neg (by simp)] at HF
      clear hk
      cases y with
      | false =>
        rw [if_neg (by simp)] at HF
        go_enter Try.func51, Try.ntmps51
        go_wp2_with fail
        refine HU.out.mono ?_
        rintro e w2 ⟨rfl, b2⟩
        have k1 := (b2.cell (p := ⟨p3, 0, none⟩) l1).trans c1
        have k2 := (b2.cell (p := ⟨R1, n, none⟩) l3).trans r1
        have k3 := (b2.cell (p := ⟨p4, 0, none⟩) l2).trans c2
        have k4 := (b2.cell (p := ⟨R2, n, none⟩) l4).trans r2
        have B2 := Lib.hid b2
        clear b2
        go_wp2
        go_ret
        exact ⟨ret_int HF.out.symm, B2.out⟩
      | true =>
        rw [if_pos rfl] at HF
        go_enter Try.func51, Try.ntmps51
        go_wp2_with fail
        refine HU.out.mono ?_
        rintro e w2 ⟨rfl, b2⟩
        have k1 := (b2.cell (p := ⟨p3, 0, none⟩) l1).trans c1
        have k2 := (b2.cell (p := ⟨R1, n, none⟩) l3).trans r1
        have k3 := (b2.cell (p := ⟨p4, 0, none⟩) l2).trans c2
        have k4 := (b2.cell (p := ⟨R2, n, none⟩) l4).trans r2
        have B2 := Lib.hid b2
        clear b2
        go_wp2
        go_ret
        exact ⟨ret_int HF.out.symm, B2.out⟩
  · rw [decide_eq_false hk] at HU
    rw [if_neg (fun h => hk h.1)] at HF
    clear hk
    cases y with
    | false =>
      rw [if_neg (by simp)] at HF
      go_enter Try.func51, Try.ntmps51
      go_wp2_with fail
      refine HU.out.mono ?_
      rintro e w2 ⟨rfl, b2⟩
      have k3 := (b2.cell (p := ⟨p4, 0, none⟩) l2).trans c2
      have k4 := (b2.cell (p := ⟨R2, n, none⟩) l4).trans r2
      have B2 := Lib.hid b2
      clear b2
      go_wp2
      go_ret
      exact ⟨ret_int HF.out.symm, B2.out⟩
    | true =>
      rw [if_pos rfl] at HF
      go_enter Try.func51, Try.ntmps51
      go_wp2_with fail
      refine HU.out.mono ?_
      rintro e w2 ⟨rfl, b2⟩
      have k3 := (b2.cell (p := ⟨p4, 0, none⟩) l2).trans c2
      have k4 := (b2.cell (p := ⟨R2, n, none⟩) l4).trans r2
      have B2 := Lib.hid b2
      clear b2
      go_wp2
      go_ret
      exact ⟨ret_int HF.out.symm, B2.out⟩

theorem foldl_snoc {α : Type} : ∀ (l acc : List α), l.foldl (fun L p => L ++ [p]) acc = acc ++ l
  | [], acc => by simp
  | a :: l, acc => by rw [List.foldl_cons, foldl_snoc l]; simp
theorem eg_path1 : ∀ args w, (callFunc 49 args).run Try.prog w = .ok (.enter 49 args) w := enters_of Try.func49 (by kernel_rfl) rfl
theorem eg_path2 : ∀ args w, (callFunc 51 args).run Try.prog w = .ok (.enter 51 args) w := enters_of Try.func51 (by kernel_rfl) rfl

set_option maxRecDepth 100000 in
set_option maxHeartbeats 1600000 in
theorem pathCheck_any (a : Option Addr) (c : Nat) (t : Tr) (w : World) (h2 : Ok2 t) (h : Nods w w.heap.size a c t) :
    Calls Try.prog 33 #[.agg #[.slice a t.length c]] w (CheckPost t 2 w) := by
  have H := Lib.hid h
  have H2 := Lib.hid h2
  have hmk := make_bools t.length h2.le
  clear h h2
  have MM := Lib.hid (show PMark (((((w.alloc (.cells #[.slice a t.length c] 24)).alloc (.cells (madeCells #[.bool false] t.length) 4)).alloc (.cells #[.slice (some ⟨w.heap.size + 1, 0, none⟩) t.length t.length] 51)).alloc (.cells (madeCells #[.bool false] t.length) 4)).alloc (.cells #[.slice (some ⟨w.heap.size + 1 + 1 + 1, 0, none⟩) t.length t.length] 51)) t.length (w.heap.size + 1 + 1) (w.heap.size + 1 + 1 + 1 + 1) (w.heap.size + 1) (w.heap.size + 1 + 1 + 1) [] from
    ⟨(((((row_new (w.alloc _) t.length (.bool false) _).alloc _).alloc _).alloc _).at_ (by simp)).ext (fun _ _ => rfl), ((((row_new (((w.alloc _).alloc _).alloc _) t.length (.bool false) _).alloc _)).at_ (by simp)).ext (fun _ _ => rfl), (((One.new ((w.alloc _).alloc _) _ _).alloc _).alloc _).at_ (by simp), (One.new ((((w.alloc _).alloc _).alloc _).alloc _) _ _).at_ (by simp)⟩)
  have TB := Lib.hid (show One (((((w.alloc (.cells #[.slice a t.length c] 24)).alloc (.cells (madeCells #[.bool false] t.length) 4)).alloc (.cells #[.slice (some ⟨w.heap.size + 1, 0, none⟩) t.length t.length] 51)).alloc (.cells (madeCells #[.bool false] t.length) 4)).alloc (.cells #[.slice (some ⟨w.heap.size + 1 + 1 + 1, 0, none⟩) t.length t.length] 51)) w.heap.size (.slice a t.length c) from
    ((((One.new w _ _).alloc _).alloc _).alloc _).alloc _)
  have BB := Lib.hid (show Below w.heap.size w (((((w.alloc (.cells #[.slice a t.length c] 24)).alloc (.cells (madeCells #[.bool false] t.length) 4)).alloc (.cells #[.slice (some ⟨w.heap.size + 1, 0, none⟩) t.length t.length] 51)).alloc (.cells (madeCells #[.bool false] t.length) 4)).alloc (.cells #[.slice (some ⟨w.heap.size + 1 + 1 + 1, 0, none⟩) t.length t.length] 51)) from
    (((((Below.refl _ _).alloc (Nat.le_refl _) _).alloc (by first | omega | (simp; done) | (simp; omega)) _).alloc (by first | omega | (simp; done) | (simp; omega)) _).alloc (by first | omega | (simp; done) | (simp; omega)) _).alloc (by first | omega | (simp; done) | (simp; omega)) _)
  go_enter Try.func33, Try.ntmps33
  go_wp2_with fail
  have VV : Visitor t 0 49 #[.pointer (some ⟨w.heap.size + 1 + 1, 0, none⟩), .pointer (some ⟨w.heap.size + 1 + 1 + 1 + 1, 0, none⟩)] (fun b => b = w.heap.size + 1 ∨ b = w.heap.size + 1 + 1 + 1) (w.heap.size + 5) (fun W L => PMark W t.length (w.heap.size + 1 + 1) (w.heap.size + 1 + 1 + 1 + 1) (w.heap.size + 1) (w.heap.size + 1 + 1 + 1) L) (fun L p => L ++ [p]) := by
    refine ⟨eg_path1, fun b hb => by omega, fun W W' s hI hb => hI.below hb (by omega) (by omega) (by omega) (by omega), fun W s xs n v hH hI hr hx hv => ?_⟩
    have hnr := H2.out.toOk1.rch hr H2.out.ne (by rw [H2.out.root]; simp)
    exact pathMark_any t.length _ _ _ _ (w.heap.size + 5) (by omega) (by omega) (by omega) (by omega) W s xs n v hH hI hnr.1 H2.out.le hx hv
  have HW := walk_any VV H2.out.toOk1 H2.out.from0 (Bt := w.heap.size) (by omega) (fun b hb => by omega) a c _ [] (H.out.below BB.out) (by first | omega | (simp; done) | (simp; omega)) MM.out
  clear VV
  refine HW.mono ?_
  rintro e W2 ⟨rfl, I2, K2⟩
  rw [foldl_snoc, List.nil_append] at I2
  have T2 := Lib.hid (TB.out.kept K2 (by omega) (by simp))
  have B2 := Lib.hid (BB.out.trans (K2.below (by first | omega | (simp; done) | (simp; omega)) (fun k hk => by omega) (by simp)))
  have M2 := Lib.hid I2
  clear I2 K2 HW
  go_wp2
  go_ret
  refine ⟨_, _, rfl, B2.out, eg_path2, fun W hW n hn => ?_⟩
  exact pathCheck2_any a c t n w.heap.size _ _ _ _ W (H.out.up (B2.out.trans (hW.mono B2.out.size))) (T2.out.below hW T2.out.lt) (M2.out.below hW M2.out.r1.lt M2.out.r2.lt M2.out.v1.lt M2.out.v2.lt) hn

end Go.Proofs.Ytndhhofidkaomaa
