/- Package quota and what its laws compare it with, at this seat's translation.
   Condition: as each theorem states; this text: FsPathC, FsRefs, QtInt, QtClone, FsUsage, FsLink, FsQuota, FsRefUse, QtArg. -/
import Derived.Test.YtndhhofidkaomaaQb5
import Derived.Laws.EntriesVeiled
import Derived.Maps.AppendAt
import Derived.Test.YtndhhofidkaomaaQb4
import Derived.IntWalk

set_option linter.all false

/- pathCheck: what the walk marks, and the function that pathCheck returns. Conditions: the tree's directories are referred to once; its cells lie in memory as they read. -/

set_option linter.all false
namespace Go.Proofs.Ytndhhofidkaomaa
open Go.RowKit

/-- The two rows that the walk marks, and the variables that hold them. -/
structure PMark (W : World) (m p3 p4 R1 R2 : Nat) (L : List Vis) : Prop where
  r1 : Row W R1 m (fun j => .bool (hasL L j))
  r2 : Row W R2 m (fun j => .bool (farL L j))
  v1 : One W p3 (.slice (some ⟨R1, 0, none⟩) m m)
  v2 : One W p4 (.slice (some ⟨R2, 0, none⟩) m m)
theorem PMark.below {W W' : World} {m p3 p4 R1 R2 B : Nat} {L : List Vis} (h : PMark W m p3 p4 R1 R2 L) (hb : Below B W W') (h1 : R1 < B) (h2 : R2 < B) (h3 : p3 < B) (h4 : p4 < B) : PMark W' m p3 p4 R1 R2 L :=
  ⟨h.r1.below hb h1, h.r2.below hb h2, h.v1.below hb h3, h.v2.below hb h4⟩
theorem Strs.setLow {W : World} {B : Nat} {v : Value} {xs : List ByteArray} (h : Strs W B v xs) {H0 : Nat} (hv : ∀ q, v.ownBlock = some q → H0 ≤ q) {p : Addr} (hp : p.block < H0) (u : Value) : Strs (W.setCell p u) B v xs := by
  obtain ⟨a, c, rfl, hc, hl, hs, hx⟩ := h
  refine ⟨a, c, rfl, hc, hl, hs, fun h0 => ?_⟩
  obtain ⟨b, o, rfl, hB, hj⟩ := hx h0
  have := hv b rfl
  exact ⟨b, o, rfl, hB, fun j hjl => (World.cell?_setCell_other W p _ u (fun e => by rw [e] at hp; simp at hp; omega)).trans (hj j hjl)⟩
theorem Kept.set {S : Nat → Prop} {a b : World} {row : Option Nat} (h : Kept S row a b) {R i : Nat} (hS : S R) (u : Value) : Kept S row a (b.setCell ⟨R, i, none⟩ u) :=
  h.trans ⟨rfl, rfl, rfl, by simp, fun k _ hs _ => Below.heap_setCell b _ u k (fun e => hs (by rw [e]; exact hS))⟩

set_option maxRecDepth 100000 in
set_option maxHeartbeats 1600000 in
theorem pathMark_any (m p3 p4 R1 R2 H0 : Nat) (d1 : R1 < p3) (d2 : p3 < R2) (d3 : R2 < p4) (d4 : p4 < H0) (W : World) (L : List Vis) (xs : List ByteArray) (n : Nat) (v : Value) (hH : H0 ≤ W.heap.size) (h : PMark W m p3 p4 R1 R2 L) (hn : n < m) (_hm : m ≤ 40) (hx : Strs W W.heap.size v xs) (hv : ∀ q, v.ownBlock = some q → H0 ≤ q) :
    Calls Try.prog 49 #[v, .int .i64 (n : Int), .pointer (some ⟨p3, 0, none⟩), .pointer (some ⟨p4, 0, none⟩)] W fun e W' => e = .returned (.tuple #[]) ∧ PMark W' m p3 p4 R1 R2 (L ++ [(xs, n)]) ∧ Kept (fun b => b = R1 ∨ b = R2) none W W' := by
  have nlz : (n : Int) < (m : Int) := by omega
  have nz : (0 : Int) ≤ (n : Int) := Int.natCast_nonneg _
  have HC := Lib.hid (pathJoin_any v xs (W.setCell ⟨R1, n, none⟩ (.bool true)) (by simpa using hx.setLow hv (p := ⟨R1, n, none⟩) (by simp; omega) (.bool true)))
  have HT := Lib.hid (show tooFar xs = decide ((joinF xs).1 ≠ 0) from rfl)
  unfold joinV faultV at HC
  generalize joinS xs = S at *
  generalize (joinF xs).2 = ji at *
  generalize (joinF xs).1 = jc at *
  have c1 := h.v1.c0
  have rc := h.r1.c n hn
  have rz := h.r1.fz n
  have rl := h.r1.lt
  have M1 := Lib.hid (show Row (W.setCell ⟨R1, n, none⟩ (.bool true)) R1 m (fun j => .bool (hasL (L ++ [(xs, n)]) j)) ∧ Row (W.setCell ⟨R1, n, none⟩ (.bool true)) R2 m (fun j => .bool (farL L j)) ∧ One (W.setCell ⟨R1, n, none⟩ (.bool true)) p3 (.slice (some ⟨R1, 0, none⟩) m m) ∧ One (W.setCell ⟨R1, n, none⟩ (.bool true)) p4 (.slice (some ⟨R2, 0, none⟩) m m) from
    ⟨(h.r1.put hn (.bool true)).ext (fun j _ => by
      rw [hasL_snoc]
      by_cases e : j = n
      · subst e; simp
      · rw [if_neg e, decide_eq_false (fun h => e h.symm), Bool.or_false]), h.r2.far (by simp; omega) _, h.v1.far (by simp; omega) _, h.v2.far (by simp; omega) _⟩)
  clear hx h
  have hl9 : R2 < W.heap.size := by omega
  have hl8 : p4 < W.heap.size := by omega
  have hl7 : p3 < W.heap.size := by omega
  by_cases hj : jc = 0
  · subst hj
    have HF := Lib.hid (show ∀ j, farL (L ++ [(xs, n)]) j = farL L j from fun j => by rw [farL_snoc]; simp only; rw [HT.out]; simp)
    go_enter Try.func49, Try.ntmps49
    go_wp2_with fail
    refine HC.out.mono ?_
    rintro e W2 ⟨rfl, b2⟩
    have s2 := b2.size
    simp only [World.size_setCell] at s2
    have MM := Lib.hid (show PMark (W2.alloc (.cells #[.int .i64 0, .int .i64 ji] 27)) m p3 p4 R1 R2 (L ++ [(xs, n)]) from
      ⟨(M1.out.1.below b2 M1.out.1.lt).alloc _, ((M1.out.2.1.below b2 M1.out.2.1.lt).ext (fun j _ => by rw [HF.out])).alloc _, (M1.out.2.2.1.below b2 M1.out.2.2.1.lt).alloc _, (M1.out.2.2.2.below b2 M1.out.2.2.2.lt).alloc _⟩)
    have KK := Lib.hid (show Kept (fun b => b = R1 ∨ b = R2) none W (W2.alloc (.cells #[.int .i64 0, .int .i64 ji] 27)) from
      (((Kept.refl _ _ _).set (.inl rfl) _).trans (Kept.of_below b2)).trans (Kept.of_below ((Below.refl _ _).alloc (Nat.le_refl _) _)))
    clear b2
    go_wp2
    go_end0
    exact ⟨rfl, MM.out, KK.out⟩
  · have hj1 : (jc != 0) = true := by simpa using hj
    have hj2 : (jc == 0) = false := by simpa using hj
    have HF := Lib.hid (show ∀ j, (if j = n then Value.bool true else Value.bool (farL L j)) = .bool (farL (L ++ [(xs, n)]) j) from fun j => by
      rw [farL_snoc]
      simp only
      rw [HT.out]
      by_cases e : j = n
      · subst e; simp [hj]
      · rw [if_neg e, decide_eq_false (fun h => e h.symm), Bool.false_and, Bool.or_false])
    clear hj
    go_enter Try.func49, Try.ntmps49
    go_wp2_with fail
    refine HC.out.mono ?_
    rintro e W2 ⟨rfl, b2⟩
    have s2 := b2.size
    simp only [World.size_setCell] at s2
    have c2 := ((M1.out.2.2.2.below b2 M1.out.2.2.2.lt)).c0
    have X2 := Lib.hid (M1.out.2.1.below b2 M1.out.2.1.lt)
    have rc2 := X2.out.c n hn
    have rz2 := X2.out.fz n
    have rl2 := X2.out.lt
    have hl2 : p4 < W2.heap.size := by omega
    have MM := Lib.hid (show PMark ((W2.setCell ⟨R2, n, none⟩ (.bool true)).alloc (.cells #[.int .i64 jc, .int .i64 ji] 27)) m p3 p4 R1 R2 (L ++ [(xs, n)]) from
      ⟨((M1.out.1.below b2 M1.out.1.lt).far (by simp; omega) _).alloc _, ((X2.out.put hn _).ext (fun j _ => HF.out j)).alloc _, ((M1.out.2.2.1.below b2 M1.out.2.2.1.lt).far (by simp; omega) _).alloc _, ((M1.out.2.2.2.below b2 M1.out.2.2.2.lt).far (by simp; omega) _).alloc _⟩)
    have KK := Lib.hid (show Kept (fun b => b = R1 ∨ b = R2) none W ((W2.setCell ⟨R2, n, none⟩ (.bool true)).alloc (.cells #[.int .i64 jc, .int .i64 ji] 27)) from
      ((((Kept.refl _ _ _).set (.inl rfl) _).trans (Kept.of_below b2)).set (.inr rfl) _).trans (Kept.of_below ((Below.refl _ _).alloc (Nat.le_refl _) _)))
    clear b2
    go_wp2
    go_end0
    exact ⟨rfl, MM.out, KK.out⟩

set_option maxRecDepth 100000 in
set_option maxHeartbeats 800000 in
theorem pathCheck2_any (a : Option Addr) (c : Nat) (t : Tr) (n pt p3 p4 R1 R2 : Nat) (w : World) (h : Nods w w.heap.size a c t) (hp : One w pt (.slice a t.length c)) (hM : PMark w t.length p3 p4 R1 R2 (visits t 0)) (hn : n < t.length) :
    Calls Try.prog 51 #[.int .i64 (n : Int), .pointer (some ⟨pt, 0, none⟩), .pointer (some ⟨p3, 0, none⟩), .pointer (some ⟨p4, 0, none⟩)] w fun e w' => e = .returned (.int .i64 (codeP t n)) ∧ Below w.heap.size w w' := by
  have nlz : (n : Int) < (t.length : Int) := by omega
  have nz : (0 : Int) ≤ (n : Int) := Int.natCast_nonneg _
  have HU := Lib.hid (isUsed_any a c t (n : Int) w h)
  have hu : used t (n : Int) = decide ((nod t n).k ≠ 0) := by
    rw [used_at nz nlz, Int.toNat_natCast, Bool.eq_iff_iff]; simp
  have HF := Lib.hid (show codeP t n = if (nod t n).k ≠ 0 ∧ hasL (visits t 0) n = false then 11 else if farL (visits t 0) n = true then 10 else 0 from rfl)
  rw [hu] at HU
  have hpc := hp.c0
  have hpl := hp.lt
  have c1 := hM.v1.c0
  have c2 := hM.v2.c0
  have r1 := hM.r1.c n hn
  have r2 := hM.r2.c n hn
  have l1 := hM.v1.lt
  have l2 := hM.v2.lt
  have l3 := hM.r1.lt
  have l4 := hM.r2.lt
  clear h hp hM hu
  generalize codeP t n = r at *
  generalize hasL (visits t 0) n = x at *
  generalize farL (visits t 0) n = y at *
  generalize (nod t n).k = k at *
  have post : ∀ (x y : Bool) (u : Bool) (r : Int), r = (if u = true ∧ x = false then 11 else if y = true then 10 else 0) → True := fun _ _ _ _ _ => trivial
  clear post
  by_cases hk : k ≠ 0
  · rw [decide_eq_true hk] at HU
    cases x with
    | false =>
      rw [if_pos ⟨hk, rfl⟩] at HF
      clear hk
      go_enter Try.func51, Try.ntmps51
      go_wp2_with fail
      refine HU.out.mono ?_
      rintro e w2 ⟨rfl, b2⟩
      have k1 := (b2.cell (p := ⟨p3, 0, none⟩) l1).trans c1
      have k2 := (b2.cell (p := ⟨R1, n, none⟩) l3).trans r1
      have B2 := Lib.hid b2
      clear b2
      go_wp2
      go_ret
      exact ⟨ret_int HF.out.symm, B2.out⟩
    | true =>
      rw [if_neg (by simp)] at HF
      clear hk
      cases y with
      | false =>
        rw [if_neg (by simp)] at HF
        go_enter Try.func51, Try.ntmps51
        go_wp2_with fail
        refine HU.out.mono ?_
        rintro e w2 ⟨rfl, b2⟩
        have k1 := (b2.cell (p := ⟨p3, 0, none⟩) l1).trans c1
        have k2 := (b2.cell (p := ⟨R1, n, none⟩) l3).trans r1
        have k3 := (b2.cell (p := ⟨p4, 0, none⟩) l2).trans c2
        have k4 := (b2.cell (p := ⟨R2, n, none⟩) l4).trans r2
        have B2 := Lib.hid b2
        clear b2
        go_wp2
        go_ret
        exact ⟨ret_int HF.out.symm, B2.out⟩
      | true =>
        rw [if_pos rfl] at HF
        go_enter Try.func51, Try.ntmps51
        go_wp2_with fail
        refine HU.out.mono ?_
        rintro e w2 ⟨rfl, b2⟩
        have k1 := (b2.cell (p := ⟨p3, 0, none⟩) l1).trans c1
        have k2 := (b2.cell (p := ⟨R1, n, none⟩) l3).trans r1
        have k3 := (b2.cell (p := ⟨p4, 0, none⟩) l2).trans c2
        have k4 := (b2.cell (p := ⟨R2, n, none⟩) l4).trans r2
        have B2 := Lib.hid b2
        clear b2
        go_wp2
        go_ret
        exact ⟨ret_int HF.out.symm, B2.out⟩
  · rw [decide_eq_false hk] at HU
    rw [if_neg (fun h => hk h.1)] at HF
    clear hk
    cases y with
    | false =>
      rw [if_neg (by simp)] at HF
      go_enter Try.func51, Try.ntmps51
      go_wp2_with fail
      refine HU.out.mono ?_
      rintro e w2 ⟨rfl, b2⟩
      have k3 := (b2.cell (p := ⟨p4, 0, none⟩) l2).trans c2
      have k4 := (b2.cell (p := ⟨R2, n, none⟩) l4).trans r2
      have B2 := Lib.hid b2
      clear b2
      go_wp2
      go_ret
      exact ⟨ret_int HF.out.symm, B2.out⟩
    | true =>
      rw [if_pos rfl] at HF
      go_enter Try.func51, Try.ntmps51
      go_wp2_with fail
      refine HU.out.mono ?_
      rintro e w2 ⟨rfl, b2⟩
      have k3 := (b2.cell (p := ⟨p4, 0, none⟩) l2).trans c2
      have k4 := (b2.cell (p := ⟨R2, n, none⟩) l4).trans r2
      have B2 := Lib.hid b2
      clear b2
      go_wp2
      go_ret
      exact ⟨ret_int HF.out.symm, B2.out⟩

theorem foldl_snoc {α : Type} : ∀ (l acc : List α), l.foldl (fun L p => L ++ [p]) acc = acc ++ l
  | [], acc => by simp
  | a :: l, acc => by rw [List.foldl_cons, foldl_snoc l]; simp
theorem eg_path1 : ∀ args w, (callFunc 49 args).run Try.prog w = .ok (.enter 49 args) w := enters_of Try.func49 (by kernel_rfl) rfl
theorem eg_path2 : ∀ args w, (callFunc 51 args).run Try.prog w = .ok (.enter 51 args) w := enters_of Try.func51 (by kernel_rfl) rfl

set_option maxRecDepth 100000 in
set_option maxHeartbeats 1600000 in
theorem pathCheck_any (a : Option Addr) (c : Nat) (t : Tr) (w : World) (h2 : Ok2 t) (h : Nods w w.heap.size a c t) :
    Calls Try.prog 33 #[.agg #[.slice a t.length c]] w (CheckPost t 2 w) := by
  have H := Lib.hid h
  have H2 := Lib.hid h2
  have hmk := make_bools t.length h2.le
  clear h h2
  have MM := Lib.hid (show PMark (((((w.alloc (.cells #[.slice a t.length c] 24)).alloc (.cells (madeCells #[.bool false] t.length) 4)).alloc (.cells #[.slice (some ⟨w.heap.size + 1, 0, none⟩) t.length t.length] 51)).alloc (.cells (madeCells #[.bool false] t.length) 4)).alloc (.cells #[.slice (some ⟨w.heap.size + 1 + 1 + 1, 0, none⟩) t.length t.length] 51)) t.length (w.heap.size + 1 + 1) (w.heap.size + 1 + 1 + 1 + 1) (w.heap.size + 1) (w.heap.size + 1 + 1 + 1) [] from
    ⟨(((((row_new (w.alloc _) t.length (.bool false) _).alloc _).alloc _).alloc _).at_ (by simp)).ext (fun _ _ => rfl), ((((row_new (((w.alloc _).alloc _).alloc _) t.length (.bool false) _).alloc _)).at_ (by simp)).ext (fun _ _ => rfl), (((One.new ((w.alloc _).alloc _) _ _).alloc _).alloc _).at_ (by simp), (One.new ((((w.alloc _).alloc _).alloc _).alloc _) _ _).at_ (by simp)⟩)
  have TB := Lib.hid (show One (((((w.alloc (.cells #[.slice a t.length c] 24)).alloc (.cells (madeCells #[.bool false] t.length) 4)).alloc (.cells #[.slice (some ⟨w.heap.size + 1, 0, none⟩) t.length t.length] 51)).alloc (.cells (madeCells #[.bool false] t.length) 4)).alloc (.cells #[.slice (some ⟨w.heap.size + 1 + 1 + 1, 0, none⟩) t.length t.length] 51)) w.heap.size (.slice a t.length c) from
    ((((One.new w _ _).alloc _).alloc _).alloc _).alloc _)
  have BB := Lib.hid (show Below w.heap.size w (((((w.alloc (.cells #[.slice a t.length c] 24)).alloc (.cells (madeCells #[.bool false] t.length) 4)).alloc (.cells #[.slice (some ⟨w.heap.size + 1, 0, none⟩) t.length t.length] 51)).alloc (.cells (madeCells #[.bool false] t.length) 4)).alloc (.cells #[.slice (some ⟨w.heap.size + 1 + 1 + 1, 0, none⟩) t.length t.length] 51)) from
    (((((Below.refl _ _).alloc (Nat.le_refl _) _).alloc (by first | omega | (simp; done) | (simp; omega)) _).alloc (by first | omega | (simp; done) | (simp; omega)) _).alloc (by first | omega | (simp; done) | (simp; omega)) _).alloc (by first | omega | (simp; done) | (simp; omega)) _)
  go_enter Try.func33, Try.ntmps33
  go_wp2_with fail
  have VV : Visitor t 0 49 #[.pointer (some ⟨w.heap.size + 1 + 1, 0, none⟩), .pointer (some ⟨w.heap.size + 1 + 1 + 1 + 1, 0, none⟩)] (fun b => b = w.heap.size + 1 ∨ b = w.heap.size + 1 + 1 + 1) (w.heap.size + 5) (fun W L => PMark W t.length (w.heap.size + 1 + 1) (w.heap.size + 1 + 1 + 1 + 1) (w.heap.size + 1) (w.heap.size + 1 + 1 + 1) L) (fun L p => L ++ [p]) := by
    refine ⟨eg_path1, fun b hb => by omega, fun W W' s hI hb => hI.below hb (by omega) (by omega) (by omega) (by omega), fun W s xs n v hH hI hr hx hv => ?_⟩
    have hnr := H2.out.toOk1.rch hr H2.out.ne (by rw [H2.out.root]; simp)
    exact pathMark_any t.length _ _ _ _ (w.heap.size + 5) (by omega) (by omega) (by omega) (by omega) W s xs n v hH hI hnr.1 H2.out.le hx hv
  have HW := walk_any VV H2.out.toOk1 H2.out.from0 (Bt := w.heap.size) (by omega) (fun b hb => by omega) a c _ [] (H.out.below BB.out) (by first | omega | (simp; done) | (simp; omega)) MM.out
  clear VV
  refine HW.mono ?_
  rintro e W2 ⟨rfl, I2, K2⟩
  rw [foldl_snoc, List.nil_append] at I2
  have T2 := Lib.hid (TB.out.kept K2 (by omega) (by simp))
  have B2 := Lib.hid (BB.out.trans (K2.below (by first | omega | (simp; done) | (simp; omega)) (fun k hk => by omega) (by simp)))
  have M2 := Lib.hid I2
  clear I2 K2 HW
  go_wp2
  go_ret
  refine ⟨_, _, rfl, B2.out, eg_path2, fun W hW n hn => ?_⟩
  exact pathCheck2_any a c t n w.heap.size _ _ _ _ W (H.out.up (B2.out.trans (hW.mono B2.out.size))) (T2.out.below hW T2.out.lt) (M2.out.below hW M2.out.r1.lt M2.out.r2.lt M2.out.v1.lt M2.out.v2.lt) hn

end Go.Proofs.Ytndhhofidkaomaa

/- referenceCheck: how many entries refer to each inode, and the function that it returns. Conditions: the tree's inodes are valid by themselves; its cells lie in memory as they read. -/

set_option linter.all false
namespace Go.Proofs.Ytndhhofidkaomaa
open Go.RowKit

def cntE (l : List DE) (n : Nat) : Nat := l.countP fun e => decide (e.i = (n : Int))
theorem cntE_snoc (l : List DE) (e : DE) (n : Nat) : cntE (l ++ [e]) n = cntE l n + if e.i = (n : Int) then 1 else 0 := by
  unfold cntE
  rw [List.countP_append]
  by_cases h : e.i = (n : Int) <;> simp [h]
/-- The entries ahead of entry k of inode i. -/
def upto (t : Tr) (i k : Nat) : List DE := (t.take i).flatMap (·.es) ++ (kids t i).take k
theorem upto_zero (t : Tr) : upto t 0 0 = [] := by unfold upto; simp
theorem upto_succ {t : Tr} {i k : Nat} (h : k < (kids t i).length) : upto t i (k + 1) = upto t i k ++ [(kids t i).getD k D0] := by
  unfold upto
  rw [List.take_succ_eq_append_getElem h, deD h, List.append_assoc]
theorem upto_next {t : Tr} {i : Nat} (h : i < t.length) : upto t i (kids t i).length = upto t (i + 1) 0 := by
  unfold upto
  rw [List.take_length, List.take_succ_eq_append_getElem h, List.flatMap_append, List.take_zero, List.append_nil]
  simp [kids, nod_at h]
theorem upto_all (t : Tr) (n : Nat) : cntE (upto t t.length 0) n = refs t n := by
  unfold upto refs cntE
  rw [List.take_length, List.take_zero, List.append_nil]
theorem cnt_le {t : Tr} (h : Ok1 t) (i k n : Nat) (hi : i ≤ t.length) : cntE (upto t i k) n ≤ 1000 := by
  have h1 : cntE (upto t i k) n ≤ (upto t i k).length := List.countP_le_length
  have h2 : (upto t i k).length ≤ 16 * i + 16 := by
    unfold upto
    rw [List.length_append, List.length_take]
    have h3 : ((t.take i).flatMap (·.es)).length ≤ (t.take i).length * 16 := by
      rw [List.length_flatMap]
      have := sum_le_mul (l := (t.take i).map fun x => x.es.length) (m := 16) (by
        intro x hx
        obtain ⟨y, hy, rfl⟩ := List.mem_map.1 hx
        obtain ⟨j, hj, rfl⟩ := List.mem_iff_getElem.1 (List.mem_of_mem_take hy)
        rw [← nod_at hj]
        exact (h.fine j).len)
      simpa using this
    have h4 := (h.fine i).len
    change (kids t i).length ≤ 16 at h4
    rw [List.length_take] at h3
    omega
  have := h.le
  omega

set_option maxRecDepth 100000 in
set_option maxHeartbeats 1600000 in
theorem refCheck1_any (a : Option Addr) (c : Nat) (t : Tr) (n pt pr R : Nat) (w : World) (h1 : Ok1 t) (h : Nods w w.heap.size a c t) (hp : One w pt (.slice a t.length c)) (hr : One w pr (.slice (some ⟨R, 0, none⟩) t.length t.length)) (hR : Row w R t.length (fun j => .int .i64 (refs t j : Nat))) (hn : n < t.length) :
    Calls Try.prog 47 #[.int .i64 (n : Int), .pointer (some ⟨pt, 0, none⟩), .pointer (some ⟨pr, 0, none⟩)] w fun e w' => e = .returned (.int .i64 (codeLk t n)) ∧ Below w.heap.size w w' := by
  obtain ⟨b, o, ve, vd, va, vx, rfl, hb, hc, hs⟩ := h.one hn
  have hk := (h1.fine n).kind
  have nlz : (n : Int) < (t.length : Int) := by omega
  have nz : (0 : Int) ≤ (n : Int) := Int.natCast_nonneg _
  have HF := Lib.hid (show codeLk t n = if ((nod t n).k = 1 ∧ n ≠ 0 ∧ refs t n ≠ 1) ∨ ((nod t n).k = 2 ∧ refs t n = 0) then 11 else 0 from rfl)
  have h0 := hc.c0
  have hpc := hp.c0
  have hrc := hr.c0
  have hRc := hR.c n hn
  clear hc hs h hp hr hR h1
  generalize codeLk t n = r at *
  generalize refs t n = q at *
  generalize (nod t n).k = k at *
  rcases hk with rfl | rfl | rfl
  · rw [if_neg (by rintro (h | h); exact absurd h.1 (by decide); exact absurd h.1 (by decide))] at HF
    go_enter Try.func47, Try.ntmps47
    go_wp2
    go_ret
    exact ⟨ret_int HF.out.symm, Below.refl _ _⟩
  · by_cases hn0 : n = 0
    · subst hn0
      rw [if_neg (by rintro (h | h); exact h.2.1 rfl; exact absurd h.1 (by decide))] at HF
      have hx : (((0 : Nat) : Int) != 0) = false := by decide
      have h0 : w.cell? ⟨b, o, none⟩ = some (.int .i64 1) := by simpa using h0
      go_enter Try.func47, Try.ntmps47
      go_wp2
      go_ret
      exact ⟨ret_int HF.out.symm, Below.refl _ _⟩
    · have hx : ((n : Int) != 0) = true := by simpa using hn0
      by_cases hq : q = 1
      · subst hq
        rw [if_neg (by rintro (h | h); exact h.2.2 rfl; exact absurd h.1 (by decide))] at HF
        clear hn0
        go_enter Try.func47, Try.ntmps47
        go_wp2
        go_ret
        exact ⟨ret_int HF.out.symm, Below.refl _ _⟩
      · have hy : ((q : Int) != 1) = true := by rw [bne_iff_ne]; omega
        rw [if_pos (.inl ⟨rfl, hn0, hq⟩)] at HF
        clear hn0 hq
        go_enter Try.func47, Try.ntmps47
        go_wp2
        go_ret
        exact ⟨ret_int HF.out.symm, Below.refl _ _⟩
  · by_cases hq : q = 0
    · subst hq
      rw [if_pos (.inr ⟨rfl, rfl⟩)] at HF
      have hy : (((0 : Nat) : Int) == 0) = true := by decide
      go_enter Try.func47, Try.ntmps47
      go_wp2
      go_ret
      exact ⟨ret_int HF.out.symm, Below.refl _ _⟩
    · have hy : ((q : Int) == 0) = false := by rw [beq_eq_false_iff_ne]; omega
      rw [if_neg (by rintro (h | h); exact absurd h.1 (by decide); exact hq h.2)] at HF
      clear hq
      go_enter Try.func47, Try.ntmps47
      go_wp2
      go_ret
      exact ⟨ret_int HF.out.symm, Below.refl _ _⟩

theorem eg_ref1 : ∀ args w, (callFunc 47 args).run Try.prog w = .ok (.enter 47 args) w := enters_of Try.func47 (by kernel_rfl) rfl
/-- What holds while the entries are counted. -/
structure RInv (w wr : World) (t : Tr) (a : Option Addr) (c pt R pr i k : Nat) : Prop where
  b : Below w.heap.size w wr
  tb : One wr pt (.slice a t.length c)
  rb : One wr pr (.slice (some ⟨R, 0, none⟩) t.length t.length)
  row : Row wr R t.length (fun j => .int .i64 (cntE (upto t i k) j : Nat))
theorem RInv.step {w wr z : World} {t : Tr} {a : Option Addr} {c pt R pr i k : Nat} (h : RInv w wr t a c pt R pr i k) (hb : Below wr.heap.size wr z) : RInv w z t a c pt R pr i k :=
  ⟨h.b.trans (hb.mono h.b.size), h.tb.below hb h.tb.lt, h.rb.below hb h.rb.lt, h.row.below hb h.row.lt⟩
theorem RInv.cnt {w wr : World} {t : Tr} {a : Option Addr} {c pt R pr i k : Nat} (h : RInv w wr t a c pt R pr i k) (hw : w.heap.size ≤ R) (h1 : R ≠ pt) (h2 : R ≠ pr) {x : ByteArray} {m : Nat} (hk : k < (kids t i).length) (he : (kids t i).getD k D0 = ⟨x, (m : Int)⟩) (hm : m < t.length) {u : Int} (hu : u = (cntE (upto t i k) m : Nat) + 1) :
    RInv w (wr.setCell ⟨R, m, none⟩ (.int .i64 u)) t a c pt R pr i (k + 1) := by
  refine ⟨h.b.setCell hw _, h.tb.far (by simpa using h1.symm) _, h.rb.far (by simpa using h2.symm) _, (h.row.put hm _).ext fun j hj => ?_⟩
  rw [upto_succ hk, cntE_snoc, he]
  simp only
  by_cases e : j = m
  · subst e; rw [if_pos rfl, if_pos rfl, hu]; congr 1
  · rw [if_neg e, if_neg (by omega)]; congr 1

set_option maxRecDepth 100000 in
set_option maxHeartbeats 3200000 in
theorem referenceCheck_any (a : Option Addr) (c : Nat) (t : Tr) (w : World) (h1 : Ok1 t) (h : Nods w w.heap.size a c t) :
    Calls Try.prog 32 #[.agg #[.slice a t.length c]] w (CheckPost t 1 w) := by
  have H := Lib.hid h
  have H1 := Lib.hid h1
  have hmk := make_ints t.length h1.le
  have h40 := h1.le
  clear h h1
  go_enter Try.func32, Try.ntmps32
  go_wp2_with fail
  have I0 := Lib.hid (show RInv w (((w.alloc (.cells #[.slice a t.length c] 24)).alloc (.cells (madeCells #[.int .i64 0] t.length) 3)).alloc (.cells #[.slice (some ⟨w.heap.size + 1, 0, none⟩) t.length t.length] 25)) t a c w.heap.size (w.heap.size + 1) (w.heap.size + 1 + 1) 0 0 from
    ⟨(((Below.refl _ _).alloc (Nat.le_refl _) _).alloc (by first | omega | (simp; done) | (simp; omega)) _).alloc (by first | omega | (simp; done) | (simp; omega)) _, ((One.new w _ _).alloc _).alloc _, (One.new ((w.alloc _).alloc _) _ _).at_ (by simp), (((row_new (w.alloc _) t.length (.int .i64 0) _).alloc _).at_ (by simp)).ext (fun j _ => by rw [upto_zero]; rfl)⟩)
  have o1 : w.heap.size < w.heap.size + 1 := by omega
  have o2 : w.heap.size + 1 < w.heap.size + 1 + 1 := by omega
  generalize w.heap.size + 1 + 1 = pr at *
  generalize w.heap.size + 1 = R at *
  go_loopg [5, 7, 15] t.length (fun gg _ _ s15 wr => ∃ i : Nat, i ≤ t.length ∧ t.length - i ≤ gg ∧ s15 = .int .i64 i ∧ Aside (RInv w wr t a c w.heap.size R pr i 0))
  case atStart => exact ⟨0, by omega, by omega, rfl, I0.out⟩
  case round =>
    obtain ⟨i, hi, hg, rfl, I⟩ := hrel
    clear I0
    obtain ⟨w2, rfl⟩ : ∃ w2 : World, w2 = wr := ⟨_, rfl⟩
    by_cases hlt : i < t.length
    · have hltz : (i : Int) < (t.length : Int) := by omega
      have hm9 : t.length - (i + 1) < t.length - i := Nat.sub_lt_sub_left hlt (Nat.lt_succ_self i)
      obtain ⟨b, o, ve, vd, va, vx, rfl, hb, hc, hs⟩ := (H.out.below I.out.b).one hlt
      obtain ⟨ea, ec, rfl, hec, hel, hef, hex⟩ := hs.es
      obtain ⟨da, dc, rfl, _⟩ := hs.dl
      obtain ⟨aa, acp, rfl, _⟩ := hs.ac
      obtain ⟨xa, xc, rfl, _⟩ := hs.xs
      have h0 := hc.c0
      have h1 := hc.c1
      have h2 := hc.c2
      have h3 := hc.c3
      have h4 := hc.c4
      have h5 := hc.c5
      have h6 := hc.c6
      have h7 := hc.c7
      change (kids t i).length ≤ ec at hec
      change (kids t i).length ≤ 35184372088832 at hel
      change w2.cell? ⟨b, o + i * 8 + 2, none⟩ = some (.slice ea (kids t i).length ec) at h2
      have HEX := Lib.hid (show 0 < (kids t i).length → ∃ b o, ea = some ⟨b, o, none⟩ ∧ b < w.heap.size ∧ ∀ j, j < (kids t i).length →
        w2.cell? ⟨b, o + j * 2, none⟩ = some (.string ((kids t i).getD j D0).n) ∧ w2.cell? ⟨b, o + j * 2 + 1, none⟩ = some (.int .i64 ((kids t i).getD j D0).i) from hex)
      have HKD := Lib.hid (fun k (hk : k < (kids t i).length) => H1.out.kid (show (kids t i).getD k D0 ∈ kids t i from by rw [deD hk]; exact List.getElem_mem hk))
      have HCL := Lib.hid (fun k q => cnt_le H1.out i k q hi)
      have HUN := Lib.hid (upto_next hlt)
      clear hc hs hef hex
      have hbs := I.out.b.size
      generalize hm : (kids t i).length = m at *
      generalize (nod t i).k = gk at *
      generalize (nod t i).o = go at *
      generalize (nod t i).dl = gd at *
      generalize (nod t i).ac.length = ga at *
      generalize (nod t i).xs.length = gx at *
      generalize (nod t i).q = gq at *
      generalize (nod t i).v = gv at *
      have I1 := Lib.hid (I.out.step ((Below.refl w2.heap.size w2).alloc (Nat.le_refl _) (.cells #[.int .i64 gk, .int .i64 go, .slice ea m ec, .slice da gd dc, .slice aa ga acp, .slice xa gx xc, .int .i64 gq, .int .i64 gv] 47)))
      have W1 := Lib.hid ((Below.refl w2.heap.size w2).alloc (Nat.le_refl _) (.cells #[.int .i64 gk, .int .i64 go, .slice ea m ec, .slice da gd dc, .slice aa ga acp, .slice xa gx xc, .int .i64 gq, .int .i64 gv] 47))
      go_wp2_with fail
      go_loopg [7, 22] m (fun gg _ s22 wq => ∃ k : Nat, k ≤ m ∧ m - k ≤ gg ∧ s22 = .int .i64 k ∧ Aside (Below w.heap.size w2 wq) ∧ Aside (RInv w wq t (some ⟨b, o, none⟩) c w.heap.size R pr i k))
      case atStart => exact ⟨0, by omega, by omega, rfl, W1.out.mono hbs, I1.out⟩
      case round =>
        obtain ⟨k, hk, hg2, rfl, WQ, IQ⟩ := hrel
        clear I1 W1
        by_cases hlk : k < m
        · have hlkz : (k : Int) < (m : Int) := by omega
          obtain ⟨be, oe, rfl, hbe, hje⟩ := HEX.out (by omega)
          have g0 := (WQ.out.cell (p := ⟨be, oe + k * 2, none⟩) hbe).trans (hje k hlk).1
          have g1 := (WQ.out.cell (p := ⟨be, oe + k * 2 + 1, none⟩) hbe).trans (hje k hlk).2
          have hkd := HKD.out k hlk
          have q2 := hkd.2.1
          have q3 := hkd.2.2.1
          clear hkd
          have hcb := fun q => HCL.out k q
          clear hje
          generalize hy : (kids t i).getD k D0 = e at *
          obtain ⟨x, ei⟩ := e
          simp only at g0 g1 q2 q3
          obtain ⟨n2, rfl⟩ := Int.eq_ofNat_of_zero_le (Int.le_of_lt q2)
          simp only [Int.toNat_natCast] at q3
          have Y := Lib.hid hy
          clear hy q2
          have IX := Lib.hid (IQ.out.step ((Below.refl wr.heap.size wr).alloc (Nat.le_refl _) (.cells #[.string x, .int .i64 (n2 : Int)] 49)))
          have hcq := hcb n2
          have rc := IX.out.row.c n2 q3
          have rz := IX.out.row.fz n2
          have rl := IX.out.row.lt
          have rb := IX.out.rb.c0
          have rbl := IX.out.rb.lt
          clear hcb
          generalize hq : cntE (upto t i k) n2 = q at *
          have HQ := Lib.hid hq
          clear hq
          have n2z : (n2 : Int) < (t.length : Int) := by omega
          have n20 : (0 : Int) ≤ (n2 : Int) := Int.natCast_nonneg _
          go_wp2
          go_roundg (m - (k + 1))
          case measure => omega
          case rel =>
            refine ⟨k + 1, by omega, by omega, by go_num, ?_, IX.out.cnt (by omega) (by omega) (by omega) (by omega) Y.out q3 (by rw [HQ.out])⟩
            exact (show Below w.heap.size w2 _ from ((WQ.out.alloc (Nat.le_trans hbs WQ.out.size) _).setCell (by first | omega | (simp; done) | (simp; omega)) _))
        · obtain rfl : k = m := by omega
          have IE := Lib.hid (show RInv w wr t (some ⟨b, o, none⟩) c w.heap.size R pr (i + 1) 0 from ⟨IQ.out.b, IQ.out.tb, IQ.out.rb, by rw [← HUN.out]; exact IQ.out.row⟩)
          go_wp2
          go_roundg (t.length - (i + 1))
          case measure => exact Nat.lt_of_lt_of_le hm9 hg
          case rel => exact ⟨i + 1, by omega, by omega, by go_num, IE.out⟩
    · obtain rfl : i = t.length := by omega
      go_wp2
      go_ret
      refine ⟨_, _, rfl, I.out.b, eg_ref1, fun W hW n hn => ?_⟩
      have Z := I.out.step hW
      exact refCheck1_any a c t n w.heap.size pr R W H1.out (H.out.up Z.b) Z.tb Z.rb (Z.row.ext fun j _ => by rw [upto_all]) hn

end Go.Proofs.Ytndhhofidkaomaa

/- Rows of ints that a call owns: an append of one int; what such a row reads as. Conditions: as each theorem states. -/

set_option linter.all false
namespace Go.Proofs.Ytndhhofidkaomaa
open Go.RowKit

def intL (xs : List Int) : List Value := xs.map (Value.int .i64)
theorem intL_append (xs ys : List Int) : intL (xs ++ ys) = intL xs ++ intL ys := by unfold intL; rw [List.map_append]
theorem intL_len (xs : List Int) : (intL xs).length = xs.length := by unfold intL; simp
set_option maxRecDepth 100000 in
/-- append(row, x): row a row of the call's own, x one int in a block of its own; where the new row lies. -/
theorem wpList_append_int {w : World} {ops : Array Oper} {rest : List Oper} {o : Oper} {a : Act} {Q : Exit → Act → World → Prop} (hgd : o.guard = none) (s x : Operand)
    (ho : o.op = .call { callee := .builtin .append, args := #[s, x], argTypes := #[25, 25] })
    (base : Nat) (v : Value) (n : Nat) (L : List Int) (hs : a.eval s = v) (hown : w.ownsRow base 3 1 v n (intL L))
    (q : Nat) (p : Int) (hx : a.eval x = .slice (some ⟨q, 0, none⟩) 1 1)
    (h0 : w.cell? ⟨q, 0, none⟩ = some (.int .i64 p))
    (hn : n ≤ 100000) (hbase : base ≤ w.heap.size)
    (h : ∀ v' w', w'.ownsRow base 3 1 v' (n + 1) (intL (L ++ [p])) → w.grownBy w' v.ownBlock → (v'.ownBlock = v.ownBlock ∨ v'.ownBlock = some w.heap.size) → wpList Try.prog ops Q rest (a.put o.dst v') w') : wpList Try.prog ops Q (o :: rest) a w := by
  obtain ⟨i0, hi, hz0, hz1, hz2⟩ := info_parts int_info
  refine wpList_plain hgd fun K hK2 => ?_
  obtain ⟨v', w', hrun, g1, g2, _, g3⟩ := run_append_own_at (P := Try.prog) w base 25 o.type 3 i0 _ 1 8 Try.underlying25 hi hz0 hz1 hz2 rfl (by omega) v n (intL L) hown ⟨q, 0, none⟩ 1 1 (intL [p]) rfl (by
      intro j u hu
      have hjl : j < 1 := (List.getElem?_eq_some_iff.1 hu).1
      obtain rfl : j = 0 := by omega
      have hadd : (⟨q, 0, none⟩ : Addr).add 0 = ⟨q, 0, none⟩ := by unfold Addr.add; split <;> simp_all
      rw [hadd]
      simp [intL] at hu; subst hu; exact h0) (by intro u hu; simp [intL] at hu; subst hu; rfl) (by unfold maxLen; omega) (by omega) hbase
  unfold Oper.wp
  simp [execOp, ho, resolve, invoke, builtin, hs, hx, hrun, Result.andThen]
  exact hK2 _ _ (h v' w' (by rw [intL_append]; exact g1) g2 g3)
/-- A row of ints: nil, or a block that holds them. -/
theorem int_row {w : World} {base n : Nat} {v : Value} {L : List Int} (h : w.ownsRow base 3 1 v n (intL L)) : n = L.length ∧ ((v = .slice none 0 0 ∧ L = []) ∨ ∃ g cap, v = .slice (some ⟨g, 0, none⟩) n cap ∧ base ≤ g ∧ g < w.heap.size ∧ ∀ j, j < n → w.cell? ⟨g, j, none⟩ = some (.int .i64 (L.getD j 0))) := by
  have hn : n = L.length := by have := h.1; rw [intL_len] at this; omega
  refine ⟨hn, ?_⟩
  rcases h.2 with ⟨hv, h0⟩ | ⟨g, cap, cur, hv, hb, hg, hnc, _, _, _⟩
  · exact .inl ⟨hv, List.eq_nil_of_length_eq_zero (by omega)⟩
  · refine .inr ⟨g, cap, hv, hb, (Array.getElem?_eq_some_iff.1 hg).1, fun j hj => ?_⟩
    rw [hv] at h
    rw [h.cellAt j (by omega)]
    unfold intL
    rw [List.getElem?_map, List.getElem?_eq_getElem (by omega), List.getD_eq_getElem?_getD, List.getElem?_eq_getElem (by omega)]
    rfl

end Go.Proofs.Ytndhhofidkaomaa

/- The reference's CloneTree: a tree of the same inodes in memory of the call's own. Conditions: the tree's inodes are valid by themselves; its cells lie in memory as they read, its files' bytes too. -/

set_option linter.all false
namespace Go.Proofs.Ytndhhofidkaomaa
open Go.RowKit

/-- A tree whose files' bytes can be read. -/
structure DNods (w : World) (B : Nat) (a : Option Addr) (c : Nat) (t : Tr) : Prop where
  nd : Nods w B a c t
  by_ : ∀ j, j < t.length → ∀ b o, a = some ⟨b, o, none⟩ → ∃ (da : Option Addr) (dc : Nat) (bs : List Value), w.cell? ⟨b, o + j * 8 + 3, none⟩ = some (.slice da (nod t j).dl dc) ∧ bs.length = (nod t j).dl ∧ (∀ u ∈ bs, u.oneCell' = true) ∧ (da = none → (nod t j).dl = 0) ∧ ∀ ad, da = some ad → ∀ i u, bs[i]? = some u → ad.block < B ∧ w.cell? (ad.add i) = some u
theorem add_blockQ (ad : Addr) (i : Nat) : (ad.add i).block = ad.block := by unfold Addr.add; split <;> simp_all
theorem DNods.below {w z : World} {B c : Nat} {a : Option Addr} {t : Tr} (h : DNods w B a c t) (hb : Below B w z) : DNods z B a c t := by
  refine ⟨h.nd.below hb, fun j hj b o ha => ?_⟩
  obtain ⟨b', o', _, _, _, _, ha', hb', _⟩ := h.nd.one hj
  rw [ha'] at ha
  injection ha with ha
  injection ha with ha1 ha2 _
  subst ha1 ha2
  obtain ⟨da, dc, bs, h1, h2, h3, h4, h5⟩ := h.by_ j hj b' o' ha'
  exact ⟨da, dc, bs, (hb.cell (p := ⟨b', o' + j * 8 + 3, none⟩) hb').trans h1, h2, h3, h4, fun ad e i u hu => ⟨(h5 ad e i u hu).1, (hb.cell (p := ad.add i) (by rw [add_blockQ]; exact (h5 ad e i u hu).1)).trans (h5 ad e i u hu).2⟩⟩
theorem DNods.more {w : World} {B B' c : Nat} {a : Option Addr} {t : Tr} (h : DNods w B a c t) (hB : B ≤ B') : DNods w B' a c t := by
  refine ⟨h.nd.more hB, fun j hj b o ha => ?_⟩
  obtain ⟨da, dc, bs, h1, h2, h3, h4, h5⟩ := h.by_ j hj b o ha
  exact ⟨da, dc, bs, h1, h2, h3, h4, fun ad e i u hu => ⟨Nat.lt_of_lt_of_le (h5 ad e i u hu).1 hB, (h5 ad e i u hu).2⟩⟩
theorem DNods.up {w w' : World} {c : Nat} {a : Option Addr} {t : Tr} (h : DNods w w.heap.size a c t) (hb : Below w.heap.size w w') : DNods w' w'.heap.size a c t := (h.below hb).more hb.size

/-- The eight cells of an inode. -/
def inoV (x : Nod) (ve vd va vx : Value) : List Value := [.int .i64 x.k, .int .i64 x.o, ve, vd, va, vx, .int .i64 x.q, .int .i64 x.v]
/-- The lists of an inode in rows of the call's own. -/
structure CRow (w : World) (B : Nat) (ve vd va vx : Value) (x : Nod) : Prop where
  e : w.ownsRow B 49 2 ve x.es.length (flatQ x.es)
  d : ∃ a c, vd = .slice a x.dl c ∧ x.dl ≤ c
  a : w.ownsRow B 79 3 va x.ac.length (flatE x.ac)
  x : w.ownsRow B 82 2 vx x.xs.length (flatA x.xs)
theorem CRow.below {w z : World} {B : Nat} {ve vd va vx : Value} {x : Nod} (h : CRow w B ve vd va vx x) (hb : Below w.heap.size w z) : CRow z B ve vd va vx x :=
  ⟨own_below h.e hb, h.d, own_below h.a hb, own_below h.x hb⟩
theorem CRow.le {w : World} {B B' : Nat} {ve vd va vx : Value} {x : Nod} (h : CRow w B ve vd va vx x) (hb : B' ≤ B) : CRow w B' ve vd va vx x := by
  have f : ∀ {e : TypeId} {s n : Nat} {v : Value} {xs : List Value}, w.ownsRow B e s v n xs → w.ownsRow B' e s v n xs := fun h => ⟨h.1, h.2.imp id fun ⟨g, cap, cur, hv, hbase, rest⟩ => ⟨g, cap, cur, hv, Nat.le_trans hb hbase, rest⟩⟩
  exact ⟨f h.e, h.d, f h.a, f h.x⟩
/-- The first k inodes, in a row v of the call's own. -/
structure CT (w : World) (B : Nat) (v : Value) (t : Tr) (k : Nat) : Prop where
  row : ∃ L : List (List Value), L.length = k ∧ w.ownsRow B 47 8 v k L.flatten ∧ ∀ j, j < k → ∃ ve vd va vx, L.getD j [] = inoV (nod t j) ve vd va vx ∧ CRow w B ve vd va vx (nod t j)
theorem CT.below {w z : World} {B : Nat} {v : Value} {t : Tr} {k : Nat} (h : CT w B v t k) (hb : Below w.heap.size w z) : CT z B v t k := by
  obtain ⟨L, h1, h2, h3⟩ := h.row
  exact ⟨L, h1, own_below h2 hb, fun j hj => by obtain ⟨ve, vd, va, vx, e, r⟩ := h3 j hj; exact ⟨ve, vd, va, vx, e, r.below hb⟩⟩
theorem CT.form {w : World} {B : Nat} {v : Value} {t : Tr} {k : Nat} (h : CT w B v t k) : ∃ a c, v = .slice a k c := by
  obtain ⟨L, _, h2, _⟩ := h.row
  rcases h2.2 with ⟨rfl, rfl⟩ | ⟨g, cap, cur, rfl, _⟩
  · exact ⟨_, _, rfl⟩
  · exact ⟨_, _, rfl⟩
theorem CT.low {w : World} {B : Nat} {v : Value} {t : Tr} {k : Nat} (h : CT w B v t k) : ∀ g, v.ownBlock = some g → B ≤ g := by
  obtain ⟨L, _, h2, _⟩ := h.row; exact own_low h2

theorem CT.le {w : World} {B B' : Nat} {v : Value} {t : Tr} {k : Nat} (h : CT w B v t k) (hb : B' ≤ B) : CT w B' v t k := by
  obtain ⟨L, h1, h2, h3⟩ := h.row
  exact ⟨L, h1, ⟨h2.1, h2.2.imp id fun ⟨g, cap, cur, hv, hbase, rest⟩ => ⟨g, cap, cur, hv, Nat.le_trans hb hbase, rest⟩⟩, fun j hj => by obtain ⟨ve, vd, va, vx, e, r⟩ := h3 j hj; exact ⟨ve, vd, va, vx, e, r.le hb⟩⟩
theorem CRow.setlow {w : World} {B : Nat} {ve vd va vx : Value} {x : Nod} (h : CRow w B ve vd va vx x) {p : Addr} (hp : p.block < B) (u : Value) : CRow (w.setCell p u) B ve vd va vx x :=
  ⟨ownsRow_setCell_below h.e hp u, h.d, ownsRow_setCell_below h.a hp u, ownsRow_setCell_below h.x hp u⟩
theorem CT.setlow {w : World} {B : Nat} {v : Value} {t : Tr} {k : Nat} (h : CT w B v t k) {p : Addr} (hp : p.block < B) (u : Value) : CT (w.setCell p u) B v t k := by
  obtain ⟨L, h1, h2, h3⟩ := h.row
  exact ⟨L, h1, ownsRow_setCell_below h2 hp u, fun j hj => by obtain ⟨ve, vd, va, vx, e, r⟩ := h3 j hj; exact ⟨ve, vd, va, vx, e, r.setlow hp u⟩⟩
/-- The lists of an inode stay where a row of inodes grows. -/
theorem CRow.grown {w z : World} {B B' n : Nat} {ve vd va vx v : Value} {x : Nod} {xs : List Value} (h : CRow w B ve vd va vx x) (ho : w.ownsRow B' 47 8 v n xs) (hg : w.grownBy z v.ownBlock) : CRow z B ve vd va vx x :=
  ⟨own_keptQ h.e hg (fun g e => own_apartQ ho h.e (by decide) e), h.d, own_keptQ h.a hg (fun g e => own_apartQ ho h.a (by decide) e), own_keptQ h.x hg (fun g e => own_apartQ ho h.x (by decide) e)⟩
/-- One more inode. -/
theorem CT.snoc {w x z : World} {B N po : Nat} {v v' : Value} {t : Tr} {k : Nat} {ve vd va vx : Value} (L : List (List Value)) (hL : L.length = k) (ho : x.ownsRow B 47 8 v k L.flatten) (hr : ∀ j, j < k → ∃ ve vd va vx, L.getD j [] = inoV (nod t j) ve vd va vx ∧ CRow x B ve vd va vx (nod t j))
    (hg : x.grownBy z v.ownBlock) (hn : z.ownsRow B 47 8 v' (k + 1) (L.flatten ++ inoV (nod t k) ve vd va vx)) (hc : CRow x B ve vd va vx (nod t k)) (hp : po < B) (u : Value) : CT (z.setCell ⟨po, 0, none⟩ u) B v' t (k + 1) := by
  refine ⟨L ++ [inoV (nod t k) ve vd va vx], by simp [hL], ownsRow_setCell_below (by rw [List.flatten_append]; simpa using hn) hp u, fun j hj => ?_⟩
  by_cases e : j = k
  · subst e
    refine ⟨ve, vd, va, vx, ?_, (hc.grown ho hg).setlow hp u⟩
    rw [List.getD_eq_getElem?_getD, List.getElem?_append_right (by omega), hL]; simp
  · obtain ⟨ve', vd', va', vx', e1, r⟩ := hr j (by omega)
    refine ⟨ve', vd', va', vx', ?_, (r.grown ho hg).setlow hp u⟩
    rw [List.getD_eq_getElem?_getD, List.getElem?_append_left (by omega), ← List.getD_eq_getElem?_getD]; exact e1

/-- What holds of one inode's copy: only its own memory has changed since y0. -/
structure Wk (y0 z : World) (N : Nat) (l : List Value) : Prop where
  b : Below N y0 z
  k : Blk z N l
/-- One list of the inode copied, and stored. -/
theorem Wk.app {y0 z w' : World} {N M : Nat} {l : List Value} {te : TypeId} (h : Wk y0 z N l) (hN : N ≤ z.heap.size) (hM : M = z.heap.size) (hg : (z.alloc (.cells #[] te)).grownBy w' (Value.slice (some ⟨M, 0, none⟩) 0 0).ownBlock) {i : Nat} (hi : i < l.length) (v : Value) :
    Wk y0 (w'.setCell ⟨N, i, none⟩ v) N (l.set i v) ∧ w'.cell? ⟨N, i, none⟩ = some l[i] ∧ w'.frozen? ⟨N, i, none⟩ = false ∧ N < w'.heap.size ∧ Below N y0 w' := by
  have hl := h.k.lt
  subst hM
  replace hg : (z.alloc (.cells #[] te)).grownBy w' (some z.heap.size) := hg
  have k1 : Blk w' N l := (h.k.alloc _).of_block (hg.block N (by simp; omega) (by simp; omega))
  have b1 : Below N y0 w' := (h.b.alloc hN _).grown hg (by simp; omega) (fun q hq => by injection hq with hq; omega)
  exact ⟨⟨b1.setCell (Nat.le_refl _) _, k1.put i v hi⟩, k1.c i _ (List.getElem?_eq_getElem hi), k1.f i hi, k1.lt, b1⟩
theorem own_emptyQ (w : World) (base N sz : Nat) (te : TypeId) (hb : base ≤ N) (hN : N = w.heap.size) : (w.alloc (.cells #[] te)).ownsRow base te sz (.slice (some ⟨N, 0, none⟩) 0 0) 0 [] := by
  subst hN; exact World.ownsRow_made w #[] 0 hb (Nat.zero_le _) (by simp)
/-- A row that was copied before stays. -/
theorem row_app {z w' : World} {N M n s : Nat} {e te : TypeId} {v : Value} {xs : List Value} (h : z.ownsRow (N + 1) e s v n xs) (hM : M = z.heap.size) (hg : (z.alloc (.cells #[] te)).grownBy w' (Value.slice (some ⟨M, 0, none⟩) 0 0).ownBlock) (i : Nat) (u : Value) : (w'.setCell ⟨N, i, none⟩ u).ownsRow (N + 1) e s v n xs := by
  subst hM
  replace hg : (z.alloc (.cells #[] te)).grownBy w' (some z.heap.size) := hg
  exact ownsRow_setCell_below (own_keptQ (own_below h ((Below.refl z.heap.size z).alloc (Nat.le_refl _) _)) hg (fun g hg2 e2 => by injection hg2 with hg2; have := own_in h g e2; omega)) (by simp) u

theorem ino_infoQ : (Try.prog.info? 47).map (fun i => (i.zero, i.size, i.bytes)) = some (some (.agg #[.int .i64 0, .int .i64 0, .slice none 0 0, .slice none 0 0, .slice none 0 0, .slice none 0 0, .int .i64 0, .int .i64 0]), 8, 128) := by kernel_rfl
theorem de_infoQ : (Try.prog.info? 49).map (fun i => (i.zero, i.size, i.bytes)) = some (some (.agg #[.string ByteArray.empty, .int .i64 0]), 2, 24) := by kernel_rfl
theorem u8_infoQ : (Try.prog.info? 5).map (fun i => (i.zero, i.size, i.bytes)) = some (some (.int .u8 0), 1, 1) := by kernel_rfl

/-- What CloneTree returns: a new tree of the same inodes. -/
def ClonePost (t : Tr) (w : World) (e : Ending) (w' : World) : Prop :=
  ∃ v, e = .returned (.agg #[v]) ∧ CT w' w.heap.size v t t.length ∧ Below w.heap.size w w'

set_option maxRecDepth 100000 in
set_option maxHeartbeats 6400000 in
theorem clone_any (a : Option Addr) (c : Nat) (t : Tr) (w : World) (h1 : Ok1 t) (h : DNods w w.heap.size a c t) :
    Calls Try.prog 29 #[.agg #[.slice a t.length c]] w (ClonePost t w) := by
  have H := Lib.hid h
  have H1 := Lib.hid h1
  have h40 := h1.le
  obtain ⟨di0, di1, dz0, dz1, dz2⟩ := info_parts de_infoQ
  obtain ⟨ui0, ui1, uz0, uz1, uz2⟩ := info_parts u8_infoQ
  obtain ⟨ei0, ei1, ez0, ez1, ez2⟩ := info_parts ent_info
  obtain ⟨ai0, ai1, az0, az1, az2⟩ := info_parts attr_info
  obtain ⟨ni0, ni1, nz0, nz1, nz2⟩ := info_parts ino_infoQ
  have ID := Lib.hid (And.intro di1 (And.intro dz0 (And.intro dz1 dz2)))
  have IU := Lib.hid (And.intro ui1 (And.intro uz0 (And.intro uz1 uz2)))
  have IE := Lib.hid (And.intro ei1 (And.intro ez0 (And.intro ez1 ez2)))
  have IA := Lib.hid (And.intro ai1 (And.intro az0 (And.intro az1 az2)))
  have INo := Lib.hid (And.intro ni1 (And.intro nz0 (And.intro nz1 nz2)))
  clear h h1 di1 dz0 dz1 dz2 ui1 uz0 uz1 uz2 ei1 ez0 ez1 ez2 ai1 az0 az1 az2 ni1 nz0 nz1 nz2
  have B0 := Lib.hid (show Below w.heap.size w (((w.alloc (.cells #[.slice a t.length c] 24)).alloc (.cells #[.slice none 0 0] 24)).alloc (.cells #[.slice none 0 0] 24)) from
    (((Below.refl _ _).alloc (Nat.le_refl _) _).alloc (by first | omega | (simp; done) | (simp; omega)) _).alloc (by first | omega | (simp; done) | (simp; omega)) _)
  have T0 := Lib.hid (show One (((w.alloc (.cells #[.slice a t.length c] 24)).alloc (.cells #[.slice none 0 0] 24)).alloc (.cells #[.slice none 0 0] 24)) w.heap.size (.slice a t.length c) from ((One.new w _ _).alloc _).alloc _)
  have P0 := Lib.hid (show One (((w.alloc (.cells #[.slice a t.length c] 24)).alloc (.cells #[.slice none 0 0] 24)).alloc (.cells #[.slice none 0 0] 24)) (w.heap.size + 1) (.slice none 0 0) from ((One.new (w.alloc _) _ _).alloc _).at_ (by simp))
  have O0 := Lib.hid (show One (((w.alloc (.cells #[.slice a t.length c] 24)).alloc (.cells #[.slice none 0 0] 24)).alloc (.cells #[.slice none 0 0] 24)) (w.heap.size + 1 + 1) (.slice none 0 0) from (One.new ((w.alloc _).alloc _) _ _).at_ (by simp))
  have C0 := Lib.hid (show CT (((w.alloc (.cells #[.slice a t.length c] 24)).alloc (.cells #[.slice none 0 0] 24)).alloc (.cells #[.slice none 0 0] 24)) (w.heap.size + 3) (.slice none 0 0) t 0 from ⟨[], rfl, World.ownsRow_nil _ _ _ _, fun j hj => absurd hj (by omega)⟩)
  unfold ClonePost
  go_enter Try.func29, Try.ntmps29
  go_wp2_with fail
  go_loopg [4, 5] t.length (fun gg s4 _ wr => ∃ k : Nat, k ≤ t.length ∧ t.length - k ≤ gg ∧ s4 = .int .i64 k ∧ Aside (Below w.heap.size w wr) ∧ Aside (One wr w.heap.size (.slice a t.length c)) ∧ Aside (One wr (w.heap.size + 1) (.slice none 0 0)) ∧ Aside (∃ v, One wr (w.heap.size + 1 + 1) v ∧ CT wr (w.heap.size + 3) v t k))
  case atStart => exact ⟨0, by omega, by omega, rfl, B0.out, T0.out, P0.out, ⟨_, O0.out, C0.out⟩⟩
  case round =>
    obtain ⟨k, hk, hg, rfl, BB, TT, PP, OC⟩ := hrel
    obtain ⟨v, O9, C9⟩ := OC.out
    obtain ⟨va, vc, rfl⟩ := C9.form
    have OO := Lib.hid O9
    have CC := Lib.hid C9
    clear B0 T0 P0 O0 C0 OC O9 C9
    have t0 := TT.out.c0
    have tl := TT.out.lt
    have ol := OO.out.lt
    by_cases hlt : k < t.length
    · have hltz : (k : Int) < (t.length : Int) := by omega
      have hi0 : (0 : Int) ≤ (k : Int) := Int.natCast_nonneg _
      have hm9 : t.length - (k + 1) < t.length - k := Nat.sub_lt_sub_left hlt (Nat.lt_succ_self k)
      obtain ⟨b, o, ve, vd, wa, vx, rfl, hb, hc, hs⟩ := (H.out.nd.below BB.out).one hlt
      obtain ⟨da, dc, bs, hdc, hbl, hb1, hdn, hdb⟩ := (H.out.below BB.out).by_ k hlt b o rfl
      have hvd := hc.c3.symm.trans hdc
      injection hvd with hvd
      subst hvd
      obtain ⟨ea, ec, rfl, _⟩ := id hs.es
      obtain ⟨aa, ac, rfl, _⟩ := id hs.ac
      obtain ⟨xa, xc, rfl, _⟩ := id hs.xs
      have h0 := hc.c0
      have h1 := hc.c1
      have h2 := hc.c2
      have h3 := hc.c3
      have h4 := hc.c4
      have h5 := hc.c5
      have h6 := hc.c6
      have h7 := hc.c7
      have hbw := BB.out.size
      have hbl2 : b < wr.heap.size := Nat.lt_of_lt_of_le hb hbw
      have NE := Lib.hid (fun y (hy : Below wr.heap.size wr y) => (hs.es.keep (w' := y) fun b o hB => hy.cell (p := ⟨b, o, none⟩) (Nat.lt_of_lt_of_le hB hbw)).newsQ)
      have NA := Lib.hid (fun y (hy : Below wr.heap.size wr y) => (hs.ac.keep (w' := y) fun b o hB => hy.cell (p := ⟨b, o, none⟩) (Nat.lt_of_lt_of_le hB hbw)).newsQ)
      have NX := Lib.hid (fun y (hy : Below wr.heap.size wr y) => (hs.xs.keep (w' := y) fun b o hB => hy.cell (p := ⟨b, o, none⟩) (Nat.lt_of_lt_of_le hB hbw)).newsQ)
      have ND := Lib.hid (fun y (hy : Below wr.heap.size wr y) => (show ∀ ad, da = some ad → ∀ i u, bs[i]? = some u → y.cell? (ad.add i) = some u from fun ad e i u hu => (hy.cell (p := ad.add i) (by rw [add_blockQ]; exact Nat.lt_of_lt_of_le (hdb ad e i u hu).1 hbw)).trans (hdb ad e i u hu).2))
      have HDN := Lib.hid hdn
      have HB1 := Lib.hid hb1
      have HBL := Lib.hid (show bs.length = (nod t k).dl * 1 from by omega)
      have S1 := (H1.out.fine k).len
      have S2 := (H1.out.fine k).dl
      have S3 : (nod t k).ac.length ≤ 5864062014805 := by obtain ⟨_, _, _, _, hl, _⟩ := hs.ac; exact hl
      have S4 : (nod t k).xs.length ≤ 4398046511104 := by obtain ⟨_, _, _, _, hl, _⟩ := hs.xs; exact hl
      clear hc hs hdc hbl hb1 hdn hdb
      obtain ⟨L, hL1, hL2, hL3⟩ := CC.out.row
      have HL2 := Lib.hid hL2
      have HL3 := Lib.hid hL3
      have HLO := Lib.hid CC.out.low
      have HSN := Lib.hid (fun (x z : World) (v' ve vd va' vx : Value) (ho : x.ownsRow (w.heap.size + 3) 47 8 (.slice va k vc) k L.flatten) (hr : ∀ j, j < k → ∃ ve vd va vx, L.getD j [] = inoV (nod t j) ve vd va vx ∧ CRow x (w.heap.size + 3) ve vd va vx (nod t j)) (hg : x.grownBy z (Value.slice va k vc).ownBlock) (hn : z.ownsRow (w.heap.size + 3) 47 8 v' (k + 1) (L.flatten ++ inoV (nod t k) ve vd va' vx)) (hc : CRow x (w.heap.size + 3) ve vd va' vx (nod t k)) (u : Value) => (CT.snoc (w := wr) (N := 0) L hL1 ho hr hg hn hc (po := w.heap.size + 1 + 1) (by omega) u))
      clear hL2 hL3 CC
      unfold inoV at HSN
      have X0 := Lib.hid (show Wk wr (wr.alloc (.cells #[.int .i64 (nod t k).k, .int .i64 (nod t k).o, .slice ea (nod t k).es.length ec, .slice da (nod t k).dl dc, .slice aa (nod t k).ac.length ac, .slice xa (nod t k).xs.length xc, .int .i64 (nod t k).q, .int .i64 (nod t k).v] 47)) wr.heap.size [.int .i64 (nod t k).k, .int .i64 (nod t k).o, .slice ea (nod t k).es.length ec, .slice da (nod t k).dl dc, .slice aa (nod t k).ac.length ac, .slice xa (nod t k).xs.length xc, .int .i64 (nod t k).q, .int .i64 (nod t k).v] from
        ⟨(Below.refl _ _).alloc (Nat.le_refl _) _, Blk.new wr [.int .i64 (nod t k).k, .int .i64 (nod t k).o, .slice ea (nod t k).es.length ec, .slice da (nod t k).dl dc, .slice aa (nod t k).ac.length ac, .slice xa (nod t k).xs.length xc, .int .i64 (nod t k).q, .int .i64 (nod t k).v] _⟩)
      have HX := Lib.hid (show CRow wr (wr.heap.size + 1) (.slice none 0 0) (.slice none 0 0) (.slice none 0 0) (.slice none 0 0) N0 → True from fun _ => trivial)
      clear HX
      generalize hxk : nod t k = x at *
      clear hxk
      have hvo : ∀ j, (⟨0, 0, none⟩ : Addr).add j = ⟨0, j, none⟩ := fun j => by rw [add_plainQ]; simp
      clear hvo
      go_wp2_with ((first
        | (at_builtin; refine wpList_append_news rfl (.tmp 18) (.tmp 20) 42 49 rfl Try.underlying42 di0 _ 2 24 ID.out.1 ID.out.2.1 ID.out.2.2.1 ID.out.2.2.2 rfl (by decide) (wr.heap.size + 1) (.slice (some ⟨wr.heap.size + 1, 0, none⟩) 0 0) 0 [] rfl (own_emptyQ _ _ _ _ _ (Nat.le_refl _) (by simp)) ea x.es.length ec (flatQ x.es) rfl (NE.out wr (Below.refl _ _)).1 (flatQ_len _) (NE.out _ (X0.out.b.alloc (by simp) _)).2.2 (flatQ_one _) (by unfold maxLen; omega) (by omega) (by simp) ?_; intro v1 w1 ho1 hg1; rw [Nat.zero_add, List.nil_append] at ho1; obtain ⟨e1, e2, rfl, _⟩ := own_shapeQ ho1; obtain ⟨Y1, s1, f1, l1, _⟩ := X0.out.app (by simp) (by simp) hg1 (i := 2) (by simp) (.slice e1 x.es.length e2); simp only [List.set_cons_succ, List.set_cons_zero] at Y1; have E1 := own_setQ (p := ⟨wr.heap.size, 2, none⟩) ho1 (by simp) (.slice e1 x.es.length e2); have m1 := Y1.k.c 3 (.slice da x.dl dc) (by simp); have n1 := Y1.k.lt)
        | (at_builtin; refine wpList_append_news rfl (.tmp 23) (.tmp 25) 43 5 rfl Try.underlying43 ui0 _ 1 1 IU.out.1 IU.out.2.1 IU.out.2.2.1 IU.out.2.2.2 rfl (by decide) (wr.heap.size + 1) (.slice (some ⟨w1.heap.size, 0, none⟩) 0 0) 0 [] rfl (own_emptyQ _ _ _ _ _ (by simp at n1; omega) (by simp)) da x.dl dc bs rfl HDN.out HBL.out (ND.out _ (Y1.b.alloc (Nat.le_of_lt n1) _)) HB1.out (by unfold maxLen; omega) (by omega) (by simp at n1 ⊢; omega) ?_; intro v2 w2 ho2 hg2; rw [Nat.zero_add, List.nil_append] at ho2; obtain ⟨d1, d2, rfl, hd2⟩ := own_shapeQ ho2; obtain ⟨Y2, s2, f2, l2, _⟩ := Y1.app (Nat.le_of_lt n1) (by simp) hg2 (i := 3) (by simp) (.slice d1 x.dl d2); simp only [List.set_cons_succ, List.set_cons_zero] at Y2; have E2 := row_app E1 (by simp) hg2 3 (.slice d1 x.dl d2); have m2 := Y2.k.c 4 (.slice aa x.ac.length ac) (by simp); have n2 := Y2.k.lt)
        | (at_builtin; refine wpList_append_news rfl (.tmp 28) (.tmp 30) 44 79 rfl Try.underlying44 ei0 _ 3 24 IE.out.1 IE.out.2.1 IE.out.2.2.1 IE.out.2.2.2 rfl (by decide) (wr.heap.size + 1) (.slice (some ⟨w2.heap.size, 0, none⟩) 0 0) 0 [] rfl (own_emptyQ _ _ _ _ _ (by simp at n2; omega) (by simp)) aa x.ac.length ac (flatE x.ac) rfl (NA.out wr (Below.refl _ _)).1 (flatE_len _) (NA.out _ (Y2.b.alloc (Nat.le_of_lt n2) _)).2.2 (flatE_one _) (by unfold maxLen; omega) (by omega) (by simp at n2 ⊢; omega) ?_; intro v3 w3 ho3 hg3; rw [Nat.zero_add, List.nil_append] at ho3; obtain ⟨a1, a2, rfl, _⟩ := own_shapeQ ho3; obtain ⟨Y3, s3, f3, l3, _⟩ := Y2.app (Nat.le_of_lt n2) (by simp) hg3 (i := 4) (by simp) (.slice a1 x.ac.length a2); simp only [List.set_cons_succ, List.set_cons_zero] at Y3; have E3 := row_app E2 (by simp) hg3 4 (.slice a1 x.ac.length a2); have A3 := own_setQ (p := ⟨wr.heap.size, 4, none⟩) ho3 (by simp) (.slice a1 x.ac.length a2); have m3 := Y3.k.c 5 (.slice xa x.xs.length xc) (by simp); have n3 := Y3.k.lt)
        | (at_builtin; refine wpList_append_news rfl (.tmp 33) (.tmp 35) 45 82 rfl Try.underlying45 ai0 _ 2 32 IA.out.1 IA.out.2.1 IA.out.2.2.1 IA.out.2.2.2 rfl (by decide) (wr.heap.size + 1) (.slice (some ⟨w3.heap.size, 0, none⟩) 0 0) 0 [] rfl (own_emptyQ _ _ _ _ _ (by simp at n3; omega) (by simp)) xa x.xs.length xc (flatA x.xs) rfl (NX.out wr (Below.refl _ _)).1 (flatA_len _) (NX.out _ (Y3.b.alloc (Nat.le_of_lt n3) _)).2.2 (flatA_one _) (by unfold maxLen; omega) (by omega) (by simp at n3 ⊢; omega) ?_; intro v4 w4 ho4 hg4; rw [Nat.zero_add, List.nil_append] at ho4; obtain ⟨x1, x2, rfl, _⟩ := own_shapeQ ho4; obtain ⟨Y4, s4, f4, l4, _⟩ := Y3.app (Nat.le_of_lt n3) (by simp) hg4 (i := 5) (by simp) (.slice x1 x.xs.length x2); simp only [List.set_cons_succ, List.set_cons_zero] at Y4; have E4 := row_app E3 (by simp) hg4 5 (.slice x1 x.xs.length x2); have A4 := row_app A3 (by simp) hg4 5 (.slice x1 x.xs.length x2); have X4 := own_setQ (p := ⟨wr.heap.size, 5, none⟩) ho4 (by simp) (.slice x1 x.xs.length x2); have n4 := Y4.k.lt; have O4 := OO.out.below Y4.b ol; have o4 := O4.c0; have ol4 := O4.lt; have q0 := Y4.k.c 0 (.int .i64 x.k) (by simp); have q1 := Y4.k.c 1 (.int .i64 x.o) (by simp); have q2 := Y4.k.c 2 (.slice e1 x.es.length e2) (by simp); have q3 := Y4.k.c 3 (.slice d1 x.dl d2) (by simp); have q4 := Y4.k.c 4 (.slice a1 x.ac.length a2) (by simp); have q5 := Y4.k.c 5 (.slice x1 x.xs.length x2) (by simp); have q6 := Y4.k.c 6 (.int .i64 x.q) (by simp); have q7 := Y4.k.c 7 (.int .i64 x.v) (by simp))
        | (at_builtin; have BX := Y4.b.alloc (Nat.le_of_lt n4) (.cells #[.int .i64 x.k, .int .i64 x.o, .slice e1 x.es.length e2, .slice d1 x.dl d2, .slice a1 x.ac.length a2, .slice x1 x.xs.length x2, .int .i64 x.q, .int .i64 x.v] 47); refine wpList_append_news rfl (.tmp 39) (.tmp 41) 22 47 rfl Try.underlying22 ni0 _ 8 128 INo.out.1 INo.out.2.1 INo.out.2.2.1 INo.out.2.2.2 rfl (by decide) (w.heap.size + 3) (.slice va k vc) k L.flatten rfl (own_below HL2.out BX) (some ⟨w4.heap.size, 0, none⟩) 1 1 [.int .i64 x.k, .int .i64 x.o, .slice e1 x.es.length e2, .slice d1 x.dl d2, .slice a1 x.ac.length a2, .slice x1 x.xs.length x2, .int .i64 x.q, .int .i64 x.v] rfl (by intro e; cases e) rfl (fun g e j u hu => by injection e with e; subst e; rw [add_plainQ, Nat.zero_add]; exact ((Blk.new (w4.setCell ⟨wr.heap.size, 5, none⟩ (.slice x1 x.xs.length x2)) [.int .i64 x.k, .int .i64 x.o, .slice e1 x.es.length e2, .slice d1 x.dl d2, .slice a1 x.ac.length a2, .slice x1 x.xs.length x2, .int .i64 x.q, .int .i64 x.v] 47).at_ (by simp)).c j u hu) (by intro u hu; simp at hu; rcases hu with rfl | rfl | rfl | rfl | rfl | rfl | rfl | rfl <;> rfl) (by unfold maxLen; omega) (by omega) (by have := BX.size; omega) ?_; intro v5 w5 ho5 hg5; obtain ⟨r1, r2, rfl, _⟩ := own_shapeQ ho5; have O5 := (O4.alloc (.cells #[.int .i64 x.k, .int .i64 x.o, .slice e1 x.es.length e2, .slice d1 x.dl d2, .slice a1 x.ac.length a2, .slice x1 x.xs.length x2, .int .i64 x.q, .int .i64 x.v] 47)).grown hg5 (fun e => by have := HLO.out _ e.symm; omega); have o5 := O5.c0; have z5 := O5.f0; have ol5 := O5.lt)))
      have BY := Y4.b
      have FB := Lib.hid (show Below w.heap.size w (w5.setCell ⟨w.heap.size + 1 + 1, 0, none⟩ (.slice r1 (k + 1) r2)) from
        ((BB.out.trans (BX.mono hbw)).grown hg5 (Nat.le_trans hbw BX.size) (fun q hq => by have := HLO.out q hq; omega)).setCell (by simp; omega) _)
      have FT := Lib.hid (show One (w5.setCell ⟨w.heap.size + 1 + 1, 0, none⟩ (.slice r1 (k + 1) r2)) w.heap.size (.slice (some ⟨b, o, none⟩) t.length c) from
        ((TT.out.below BX tl).grown hg5 (fun e => by have := HLO.out _ e.symm; omega)).far (by simp; omega) _)
      have FP := Lib.hid (show One (w5.setCell ⟨w.heap.size + 1 + 1, 0, none⟩ (.slice r1 (k + 1) r2)) (w.heap.size + 1) (.slice none 0 0) from
        ((PP.out.below BX PP.out.lt).grown hg5 (fun e => by have := HLO.out _ e.symm; omega)).far (by simp) _)
      have FO := Lib.hid (show One (w5.setCell ⟨w.heap.size + 1 + 1, 0, none⟩ (.slice r1 (k + 1) r2)) (w.heap.size + 1 + 1) (.slice r1 (k + 1) r2) from O5.put _)
      have AX := (Below.refl (w4.setCell ⟨wr.heap.size, 5, none⟩ (.slice x1 x.xs.length x2)).heap.size (w4.setCell ⟨wr.heap.size, 5, none⟩ (.slice x1 x.xs.length x2))).alloc (Nat.le_refl _) (.cells #[.int .i64 x.k, .int .i64 x.o, .slice e1 x.es.length e2, .slice d1 x.dl d2, .slice a1 x.ac.length a2, .slice x1 x.xs.length x2, .int .i64 x.q, .int .i64 x.v] 47)
      have FC := Lib.hid (HSN.out _ w5 (.slice r1 (k + 1) r2) _ _ _ _ (own_below HL2.out BX) (fun j hj => by obtain ⟨ve, vd, va, vx, e9, r9⟩ := HL3.out j hj; exact ⟨ve, vd, va, vx, e9, r9.below BX⟩) hg5 ho5 ((CRow.below ⟨E4, ⟨_, _, rfl, hd2⟩, A4, X4⟩ AX).le (by omega)) (.slice r1 (k + 1) r2))
      clear BY AX O5 o5 z5 ol5 ho5 hg5 BX E4 A4 X4 Y4 n4 O4 o4 ol4 q0 q1 q2 q3 q4 q5 q6 q7 HSN HL2 HL3 HLO OO TT PP BB
      go_wp2
      go_roundg (t.length - (k + 1))
      case measure => exact Nat.lt_of_lt_of_le hm9 hg
      case rel => exact ⟨k + 1, by omega, by omega, by go_num, FB.out, FT.out, FP.out, (show ∃ v, _ from ⟨_, FO.out, FC.out⟩)⟩
    · obtain rfl : k = t.length := by omega
      have o0 := OO.out.c0
      have p0 := PP.out.c0
      have pl := PP.out.lt
      have pz := PP.out.f0
      go_wp2
      exact bodyPost_ret (v := .agg #[.slice va t.length vc]) (by simp [results, Try.results29, go_sem, pl, p0]) rfl ⟨_, rfl, (CC.out.setlow (p := ⟨w.heap.size + 1, 0, none⟩) (by simp) _).le (by omega), BB.out.setCell (by simp) _⟩

end Go.Proofs.Ytndhhofidkaomaa

/- usage and quotaCheck. Conditions: all inodes that are not free are reached; the tree's cells lie in memory as they read. -/

set_option linter.all false
namespace Go.Proofs.Ytndhhofidkaomaa
open Go.RowKit

theorem One.set {w : World} {n : Nat} {v : Value} (h : One w n v) (u : Value) : One (w.setCell ⟨n, 0, none⟩ u) n u :=
  ⟨by simpa using h.lt, World.cell?_setCell_same _ _ _ h.c0, by simpa using h.f0⟩
/-- What is counted so far. -/
structure UInv (W : World) (t : Tr) (a : Option Addr) (c pt ptot R pc Bt : Nat) (L : List Vis) : Prop where
  row : Row W R t.length (fun j => .bool (hasL L j))
  cv : One W pc (.slice (some ⟨R, 0, none⟩) t.length t.length)
  tot : One W ptot (.int .i64 (usg t L : Nat))
  tb : One W pt (.slice a t.length c)
  nd : Nods W Bt a c t
theorem UInv.below {W W' : World} {t : Tr} {a : Option Addr} {c pt ptot R pc Bt B : Nat} {L : List Vis} (h : UInv W t a c pt ptot R pc Bt L) (hb : Below B W W') (h1 : R < B) (h2 : ptot < B) (h3 : pc < B) (h4 : pt < B) (h5 : Bt ≤ B) : UInv W' t a c pt ptot R pc Bt L :=
  ⟨h.row.below hb h1, h.cv.below hb h3, h.tot.below hb h2, h.tb.below hb h4, h.nd.below (hb.mono h5)⟩

set_option maxRecDepth 100000 in
set_option maxHeartbeats 1600000 in
theorem usage1_any (t : Tr) (h1 : Ok1 t) (a : Option Addr) (c pt ptot R pc Bt : Nat) (d0 : Bt ≤ pt) (d1 : pt < ptot) (d2 : ptot < R) (d3 : R < pc) (W : World) (L : List Vis) (xs : List ByteArray) (n : Nat) (v : Value) (hp : pc < W.heap.size) (h : UInv W t a c pt ptot R pc Bt L) (hn : n < t.length) :
    Calls Try.prog 62 #[v, .int .i64 (n : Int), .pointer (some ⟨pc, 0, none⟩), .pointer (some ⟨ptot, 0, none⟩), .pointer (some ⟨pt, 0, none⟩)] W fun e W' => e = .returned (.tuple #[]) ∧ UInv W' t a c pt ptot R pc Bt (L ++ [(xs, n)]) ∧ Kept (fun b => b = R ∨ b = ptot) none W W' := by
  have nlz : (n : Int) < (t.length : Int) := by omega
  have nz : (0 : Int) ≤ (n : Int) := Int.natCast_nonneg _
  obtain ⟨b, o, ve, vd, va, vx, rfl, hb, hc, hs⟩ := h.nd.one hn
  obtain ⟨da, dc, rfl, _⟩ := hs.dl
  have h3 := hc.c3
  have hdl := (h1.fine n).dl
  have hul := usg_le h1 L
  have r0 := h.row.c n hn
  have rz := h.row.fz n
  have rl := h.row.lt
  have c0 := h.cv.c0
  have t0 := h.tot.c0
  have tz := h.tot.f0
  have b0 := h.tb.c0
  have hl5 : ptot < W.heap.size := by omega
  have hl6 : pt < W.heap.size := by omega
  have HI := Lib.hid h
  have HU := Lib.hid (usg_snoc (L := L) (p := (xs, n)) hn)
  clear hc hs h h1
  cases hx : hasL L n with
  | true =>
    rw [hx] at r0
    have HL := Lib.hid (show UInv W t (some ⟨b, o, none⟩) c pt ptot R pc Bt (L ++ [(xs, n)]) from
      ⟨HI.out.row.ext (fun j _ => by
        rw [hasL_snoc]
        by_cases e : n = j
        · subst e; simp [hx]
        · simp [e]), HI.out.cv, by rw [HU.out, if_pos hx]; exact HI.out.tot, HI.out.tb, HI.out.nd⟩)
    clear hx HU
    go_enter Try.func62, Try.ntmps62
    go_wp2
    go_end0
    exact ⟨rfl, HL.out, Kept.refl _ _ _⟩
  | false =>
    rw [hx] at r0
    have HR := Lib.hid (fun (f : Nat → Value) (hf : ∀ j, j < t.length → f j = (if j = n then Value.bool true else Value.bool (hasL L j))) j (hj : j < t.length) => (show f j = .bool (hasL (L ++ [(xs, n)]) j) from by
      rw [hf j hj, hasL_snoc]
      by_cases e : j = n
      · subst e; simp
      · rw [if_neg e, decide_eq_false (fun h => e h.symm), Bool.or_false]))
    have HU2 := Lib.hid (show usg t (L ++ [(xs, n)]) = usg t L + (nod t n).dl from by rw [HU.out, if_neg (by rw [hx]; simp)])
    clear hx HU
    have RR := Lib.hid (HI.out.row.put hn (.bool true))
    have HV := HI.out.nd
    generalize hu : usg t L = u at *
    generalize hd : (nod t n).dl = d at *
    have b1 : (W.setCell ⟨R, n, none⟩ (.bool true)).cell? ⟨ptot, 0, none⟩ = some (.int .i64 (u : Int)) := (World.cell?_setCell_other _ _ _ _ (by first | omega | (simp; done) | (simp; omega))).trans t0
    have b2 : (W.setCell ⟨R, n, none⟩ (.bool true)).cell? ⟨pt, 0, none⟩ = some (.slice (some ⟨b, o, none⟩) t.length c) := (World.cell?_setCell_other _ _ _ _ (by first | omega | (simp; done) | (simp; omega))).trans b0
    have b3 : (W.setCell ⟨R, n, none⟩ (.bool true)).cell? ⟨b, o + n * 8 + 3, none⟩ = some (.slice da d dc) := (World.cell?_setCell_other _ _ _ _ (by first | omega | (simp; done) | (simp; omega))).trans h3
    have FF := Lib.hid (show UInv ((W.setCell ⟨R, n, none⟩ (.bool true)).drew.setCell ⟨ptot, 0, none⟩ (.int .i64 ((u : Int) + (d : Int)))) t (some ⟨b, o, none⟩) c pt ptot R pc Bt (L ++ [(xs, n)]) from
      ⟨((show Row (W.setCell ⟨R, n, none⟩ (.bool true)).drew R t.length _ from ⟨RR.out.lt, RR.out.c, RR.out.fz⟩).far (by first | omega | (simp; done) | (simp; omega)) _).ext (HR.out _ (fun _ _ => rfl)), ((HI.out.cv.far (p := ⟨R, n, none⟩) (by first | omega | (simp; done) | (simp; omega)) (.bool true)).drew).far (by first | omega | (simp; done) | (simp; omega)) _, by
        have := ((HI.out.tot.far (p := ⟨R, n, none⟩) (by first | omega | (simp; done) | (simp; omega)) (.bool true)).drew).set (.int .i64 ((u : Int) + (d : Int)))
        rw [HU2.out]
        have e : ((u + d : Nat) : Int) = (u : Int) + (d : Int) := by omega
        rw [e]; exact this, ((HI.out.tb.far (p := ⟨R, n, none⟩) (by first | omega | (simp; done) | (simp; omega)) (.bool true)).drew).far (by first | omega | (simp; done) | (simp; omega)) _, HV.keep fun b' o' hb' => (World.cell?_setCell_other _ _ _ _ (by first | omega | (simp; done) | (simp; omega))).trans (World.cell?_setCell_other W _ _ _ (by first | omega | (simp; done) | (simp; omega)))⟩)
    have KK := Lib.hid (show Kept (fun b => b = R ∨ b = ptot) none W ((W.setCell ⟨R, n, none⟩ (.bool true)).drew.setCell ⟨ptot, 0, none⟩ (.int .i64 ((u : Int) + (d : Int)))) from
      (((Kept.refl _ _ _).set (.inl rfl) _).trans (Kept.of_below (Below.refl _ _).drew)).set (.inr rfl) _)
    have dz : (0 : Int) ≤ (d : Int) := Int.natCast_nonneg _
    have uz : (0 : Int) ≤ (u : Int) := Int.natCast_nonneg _
    go_enter Try.func62, Try.ntmps62
    have hwr : IntKind.i64.wrap ((u : Int) + (d : Int)) = (u : Int) + (d : Int) := IntWalk.i64_in _ (by omega)
    go_wp2
    go_region
    all_goals
      go_end0
      exact ⟨rfl, FF.out, KK.out⟩

end Go.Proofs.Ytndhhofidkaomaa

/- The reference's LinkCount: how many entries refer to an inode. Conditions: the tree's inodes are valid by themselves; its cells lie in memory as they read. -/

set_option linter.all false
namespace Go.Proofs.Ytndhhofidkaomaa
open Go.RowKit

theorem cnt_step {t : Tr} {i k n q : Nat} {x : ByteArray} {ei : Int} (hk : k < (kids t i).length) (he : (kids t i).getD k D0 = ⟨x, ei⟩) (hq : cntE (upto t i k) n = q) : cntE (upto t i (k + 1)) n = q + if ei = (n : Int) then 1 else 0 := by
  rw [upto_succ hk, cntE_snoc, he, hq]

set_option maxRecDepth 100000 in
set_option maxHeartbeats 3200000 in
theorem linkCount_any (a : Option Addr) (c : Nat) (t : Tr) (n : Nat) (w : World) (h1 : Ok1 t) (h : Nods w w.heap.size a c t) :
    Calls Try.prog 24 #[.agg #[.slice a t.length c], .int .i64 (n : Int)] w fun e w' => e = .returned (.int .i64 (refs t n : Nat)) ∧ Below w.heap.size w w' := by
  have H := Lib.hid h
  have H1 := Lib.hid h1
  have h40 := h1.le
  have hU := Lib.hid (show cntE (upto t 0 0) n = 0 by rw [upto_zero]; rfl)
  have hA := Lib.hid (upto_all t n)
  clear h h1
  have T0 := Lib.hid (One.new w (.slice a t.length c) 24)
  have B0 := Lib.hid ((Below.refl w.heap.size w).alloc (Nat.le_refl _) (.cells #[.slice a t.length c] 24))
  go_enter Try.func24, Try.ntmps24
  go_wp2_with fail
  go_loopg [5, 6, 7] t.length (fun gg s5 s6 _ wr => ∃ i : Nat, i ≤ t.length ∧ t.length - i ≤ gg ∧ s5 = .int .i64 (cntE (upto t i 0) n : Nat) ∧ s6 = .int .i64 i ∧ Aside (Below w.heap.size w wr) ∧ Aside (One wr w.heap.size (.slice a t.length c)))
  case atStart => exact ⟨0, by omega, by omega, by rw [hU.out]; rfl, rfl, B0.out, T0.out⟩
  case round =>
    obtain ⟨i, hi, hg, rfl, rfl, B, T⟩ := hrel
    obtain ⟨w2, rfl⟩ : ∃ w2 : World, w2 = wr := ⟨_, rfl⟩
    clear T0 B0 hU
    have tc := T.out.c0
    have tl := T.out.lt
    by_cases hlt : i < t.length
    · have hltz : (i : Int) < (t.length : Int) := by omega
      have hi0 : (0 : Int) ≤ (i : Int) := Int.natCast_nonneg _
      have hm9 : t.length - (i + 1) < t.length - i := Nat.sub_lt_sub_left hlt (Nat.lt_succ_self i)
      obtain ⟨b, o, ve, vd, va, vx, rfl, hb, hc, hs⟩ := (H.out.below B.out).one hlt
      obtain ⟨ea, ec, rfl, hec, hel, hef, hex⟩ := hs.es
      have h2 := hc.c2
      change (kids t i).length ≤ ec at hec
      change (kids t i).length ≤ 35184372088832 at hel
      change w2.cell? ⟨b, o + i * 8 + 2, none⟩ = some (.slice ea (kids t i).length ec) at h2
      have HEX := Lib.hid (show 0 < (kids t i).length → ∃ b o, ea = some ⟨b, o, none⟩ ∧ b < w.heap.size ∧ ∀ j, j < (kids t i).length →
        w2.cell? ⟨b, o + j * 2, none⟩ = some (.string ((kids t i).getD j D0).n) ∧ w2.cell? ⟨b, o + j * 2 + 1, none⟩ = some (.int .i64 ((kids t i).getD j D0).i) from hex)
      have HCL := Lib.hid (fun k => cnt_le H1.out i k n hi)
      have HUN := Lib.hid (upto_next hlt)
      have HST := Lib.hid (fun (k q : Nat) (x : ByteArray) (ei : Int) => cnt_step (t := t) (i := i) (k := k) (n := n) (q := q) (x := x) (ei := ei))
      clear hc hs hef hex
      generalize hm : (kids t i).length = m at *
      go_wp2_with fail
      go_loopg [5, 7] m (fun gg s5 s7 wq => ∃ k : Nat, k ≤ m ∧ m - k ≤ gg ∧ s5 = .int .i64 (cntE (upto t i k) n : Nat) ∧ s7 = .int .i64 k ∧ Aside (w2 = wq))
      case atStart => exact ⟨0, by omega, by omega, rfl, rfl, rfl⟩
      case round =>
        obtain ⟨k, hk, hg2, rfl, rfl, hw⟩ := hrel
        have hw2 := hw.out
        subst hw2
        clear hw
        by_cases hlk : k < m
        · have hlkz : (k : Int) < (m : Int) := by omega
          have hk0 : (0 : Int) ≤ (k : Int) := Int.natCast_nonneg _
          obtain ⟨be, oe, rfl, hbe, hje⟩ := HEX.out (by omega)
          have g1 := (hje k hlk).2
          have hcb := HCL.out k
          clear hje
          generalize hy : (kids t i).getD k D0 = e at *
          obtain ⟨x, ei⟩ := e
          simp only at g1
          generalize hq : cntE (upto t i k) n = q at *
          have HS := Lib.hid (HST.out k q x ei hlk hy hq)
          clear hy hq
          by_cases he : ei = (n : Int)
          · subst he
            rw [if_pos rfl] at HS
            go_wp2
            go_roundg (m - (k + 1))
            case measure => omega
            case rel => exact ⟨k + 1, by omega, by omega, by rw [HS.out]; go_num, by go_num, rfl⟩
          · have heb : (ei == (n : Int)) = false := by simpa using he
            rw [if_neg he] at HS
            clear he
            go_wp2
            go_roundg (m - (k + 1))
            case measure => omega
            case rel => exact ⟨k + 1, by omega, by omega, by rw [HS.out]; rfl, by go_num, rfl⟩
        · obtain rfl : k = m := by omega
          go_wp2
          go_roundg (t.length - (i + 1))
          case measure => exact Nat.lt_of_lt_of_le hm9 hg
          case rel => exact ⟨i + 1, by omega, by omega, by rw [← HUN.out], by go_num, B.out, T.out⟩
    · obtain rfl : i = t.length := by omega
      go_wp2
      go_ret
      exact ⟨ret_int (by rw [hA.out]), B.out⟩

end Go.Proofs.Ytndhhofidkaomaa

/- usage at any inode from which all walks end, and quotaCheck. Conditions: as each theorem states; the tree's cells lie in memory as they read. -/

set_option linter.all false
namespace Go.Proofs.Ytndhhofidkaomaa
open Go.RowKit

theorem eg_usage1 : ∀ args w, (callFunc 62 args).run Try.prog w = .ok (.enter 62 args) w := enters_of Try.func62 (by kernel_rfl) rfl
set_option maxRecDepth 100000 in
set_option maxHeartbeats 1600000 in
theorem usage_any (a : Option Addr) (c : Nat) (t : Tr) (n : Nat) (w : World) (h1 : Ok1 t) (fr : From t n) (h : Nods w w.heap.size a c t) :
    Calls Try.prog 54 #[.agg #[.slice a t.length c], .int .i64 (n : Int)] w fun e w' => e = .returned (.int .i64 (usg t (visits t n) : Nat)) ∧ Below w.heap.size w w' := by
  have H := Lib.hid h
  have H1 := Lib.hid h1
  have FR := Lib.hid fr
  have hmk := make_bools t.length h1.le
  clear h h1 fr
  have BB := Lib.hid (show Below w.heap.size w ((((w.alloc (.cells #[.slice a t.length c] 24)).alloc (.cells #[.int .i64 0] 3)).alloc (.cells (madeCells #[.bool false] t.length) 4)).alloc (.cells #[.slice (some ⟨w.heap.size + 1 + 1, 0, none⟩) t.length t.length] 51)) from
    ((((Below.refl _ _).alloc (Nat.le_refl _) _).alloc (by first | omega | (simp; done) | (simp; omega)) _).alloc (by first | omega | (simp; done) | (simp; omega)) _).alloc (by first | omega | (simp; done) | (simp; omega)) _)
  have MM := Lib.hid (show UInv ((((w.alloc (.cells #[.slice a t.length c] 24)).alloc (.cells #[.int .i64 0] 3)).alloc (.cells (madeCells #[.bool false] t.length) 4)).alloc (.cells #[.slice (some ⟨w.heap.size + 1 + 1, 0, none⟩) t.length t.length] 51)) t a c w.heap.size (w.heap.size + 1) (w.heap.size + 1 + 1) (w.heap.size + 1 + 1 + 1) w.heap.size [] from
    ⟨(((row_new ((w.alloc _).alloc _) t.length (.bool false) _).alloc _).at_ (by simp)).ext (fun _ _ => rfl), (One.new (((w.alloc _).alloc _).alloc _) _ _).at_ (by simp), by rw [usg_nil]; exact (((One.new (w.alloc _) (.int .i64 0) _).alloc _).alloc _).at_ (by simp), (((One.new w _ _).alloc _).alloc _).alloc _, H.out.below BB.out⟩)
  go_enter Try.func54, Try.ntmps54
  go_wp2_with fail
  have VV : Visitor t n 62 #[.pointer (some ⟨w.heap.size + 1 + 1 + 1, 0, none⟩), .pointer (some ⟨w.heap.size + 1, 0, none⟩), .pointer (some ⟨w.heap.size, 0, none⟩)] (fun b => b = w.heap.size + 1 + 1 ∨ b = w.heap.size + 1) (w.heap.size + 4) (fun W L => UInv W t a c w.heap.size (w.heap.size + 1) (w.heap.size + 1 + 1) (w.heap.size + 1 + 1 + 1) w.heap.size L) (fun L p => L ++ [p]) := by
    refine ⟨eg_usage1, fun b hb => by omega, fun W W' s hI hb => hI.below hb (by omega) (by omega) (by omega) (by omega) (by omega), fun W s xs m v hH hI hr hx hv => ?_⟩
    have hnr := H1.out.rch hr FR.out.lt FR.out.used
    exact usage1_any t H1.out a c w.heap.size _ _ _ w.heap.size (by omega) (by omega) (by omega) (by omega) W s xs m v (by omega) hI hnr.1
  have HW := walk_any VV H1.out FR.out (Bt := w.heap.size) (by omega) (fun b hb => by omega) a c _ [] (H.out.below BB.out) (by first | omega | (simp; done) | (simp; omega)) MM.out
  clear VV
  refine HW.mono ?_
  rintro e W2 ⟨rfl, I2, K2⟩
  rw [foldl_snoc, List.nil_append] at I2
  have t0 := I2.tot.c0
  have B2 := Lib.hid (BB.out.trans (K2.below (by first | omega | (simp; done) | (simp; omega)) (fun k hk => by omega) (by simp)))
  clear I2 K2 HW
  go_wp2
  go_ret
  exact ⟨rfl, B2.out⟩

set_option maxRecDepth 100000 in
set_option maxHeartbeats 800000 in
theorem quotaCheck1_any (a : Option Addr) (c : Nat) (t : Tr) (n pt : Nat) (w : World) (hd : Head t) (hp3 : Pass t 3) (h : Nods w w.heap.size a c t) (hp : One w pt (.slice a t.length c)) (hn : n < t.length) :
    Calls Try.prog 53 #[.int .i64 (n : Int), .pointer (some ⟨pt, 0, none⟩)] w fun e w' => e = .returned (.int .i64 (codeQ t n)) ∧ Below w.heap.size w w' := by
  have o1 := Pass.ok1 hd (hp3.mono (by omega))
  have nlz : (n : Int) < (t.length : Int) := by omega
  have nz : (0 : Int) ≤ (n : Int) := Int.natCast_nonneg _
  have HF := Lib.hid (show codeQ t n = if (nod t n).q ≠ 0 ∧ (nod t n).q < (usg t (visits t n) : Int) then 14 else 0 from rfl)
  have HU := Lib.hid (fun (hk : (nod t n).k ≠ 0) => usage_any a c t n w o1 (Pass.from_ hd hp3 hn hk).1 h)
  have HK := Lib.hid (show (nod t n).q ≠ 0 → (nod t n).k ≠ 0 from fun hq hk => hq ((o1.fine n).dir (by rw [hk]; decide)).2)
  obtain ⟨b, o, ve, vd, va, vx, rfl, hb, hc, hs⟩ := h.one hn
  have h6 := hc.c6
  have b0 := hp.c0
  have bl := hp.lt
  clear hc hs h hp o1 hp3 hd
  generalize codeQ t n = r at *
  generalize usg t (visits t n) = u at *
  generalize (nod t n).q = q at *
  by_cases hq : q = 0
  · subst hq
    rw [if_neg (by simp)] at HF
    go_enter Try.func53, Try.ntmps53
    go_wp2
    go_ret
    exact ⟨ret_int HF.out.symm, Below.refl _ _⟩
  · have hq1 : (q != 0) = true := by simpa using hq
    have HU2 := Lib.hid (HU.out (HK.out hq))
    clear HU HK
    by_cases hg : q < (u : Int)
    · rw [if_pos ⟨hq, hg⟩] at HF
      clear hq
      go_enter Try.func53, Try.ntmps53
      go_wp2_with fail
      refine HU2.out.mono ?_
      rintro e w2 ⟨rfl, b2⟩
      have B2 := Lib.hid b2
      clear b2
      go_wp2
      go_ret
      exact ⟨ret_int HF.out.symm, B2.out⟩
    · rw [if_neg (fun h => hg h.2)] at HF
      have hg2 : decide (q < (u : Int)) = false := by simpa using hg
      clear hq
      go_enter Try.func53, Try.ntmps53
      go_wp2_with fail
      refine HU2.out.mono ?_
      rintro e w2 ⟨rfl, b2⟩
      have B2 := Lib.hid b2
      clear b2
      go_wp2
      go_ret
      exact ⟨ret_int HF.out.symm, B2.out⟩

theorem eg_quota1 : ∀ args w, (callFunc 53 args).run Try.prog w = .ok (.enter 53 args) w := enters_of Try.func53 (by kernel_rfl) rfl
set_option maxRecDepth 100000 in
set_option maxHeartbeats 400000 in
theorem quotaCheck_any (a : Option Addr) (c : Nat) (t : Tr) (w : World) (hd : Head t) (hp3 : Pass t 3) (h : Nods w w.heap.size a c t) :
    Calls Try.prog 34 #[.agg #[.slice a t.length c]] w (CheckPost t 3 w) := by
  have H := Lib.hid h
  have HP := Lib.hid hp3
  have HD := Lib.hid hd
  clear h hp3 hd
  go_enter Try.func34, Try.ntmps34
  go_wp2
  go_ret
  refine ⟨_, _, rfl, (Below.refl _ _).alloc (Nat.le_refl _) _, eg_quota1, fun W hW n hn => ?_⟩
  have hb : Below w.heap.size w W := ((Below.refl _ _).alloc (Nat.le_refl _) _).trans (hW.mono (by simp))
  exact quotaCheck1_any a c t n w.heap.size W HD.out HP.out (H.out.up hb) ((One.new w _ _).below hW (by simp)) hn

/-! ## The four checks by number -/
def fnK (k : Nat) : FuncId := match k with
  | 0 => 31
  | 1 => 32
  | 2 => 33
  | _ => 34
theorem check_any (k : Nat) (a : Option Addr) (c : Nat) (t : Tr) (w : World) (hd : Head t) (hp : Pass t k) (hk : k < 4) (h : Nods w w.heap.size a c t) : Calls Try.prog (fnK k) #[.agg #[.slice a t.length c]] w (CheckPost t k w) := by
  match k, hk with
  | 0, _ => exact fieldCheck_any a c t w h
  | 1, _ => exact referenceCheck_any a c t w (Pass.ok1 hd hp) h
  | 2, _ => exact pathCheck_any a c t w (Pass.ok2 hd hp) h
  | 3, _ => exact quotaCheck_any a c t w hd hp h
theorem eg_fnK (k : Nat) (hk : k < 4) : ∀ args w, (callFunc (fnK k) args).run Try.prog w = .ok (.enter (fnK k) args) w := by
  match k, hk with
  | 0, _ => exact enters_of Try.func31 (by kernel_rfl) rfl
  | 1, _ => exact enters_of Try.func32 (by kernel_rfl) rfl
  | 2, _ => exact enters_of Try.func33 (by kernel_rfl) rfl
  | 3, _ => exact enters_of Try.func34 (by kernel_rfl) rfl

end Go.Proofs.Ytndhhofidkaomaa

/- The reference's Usage. Conditions: the tree's inodes are valid by themselves, all walks from the inode end; the tree's cells lie in memory as they read. -/

set_option linter.all false
namespace Go.Proofs.Ytndhhofidkaomaa
open Go.RowKit

theorem hasL_take {L : List Vis} {j i : Nat} (h : j < L.length) : hasL (L.take (j + 1)) i = (hasL (L.take j) i || decide ((L.getD j V0).2 = i)) := by
  rw [List.take_succ_eq_append_getElem h, hasL_snoc, visD h]
theorem farL_take {L : List Vis} {j i : Nat} (h : j < L.length) : farL (L.take (j + 1)) i = (farL (L.take j) i || (decide ((L.getD j V0).2 = i) && tooFar (L.getD j V0).1)) := by
  rw [List.take_succ_eq_append_getElem h, farL_snoc, visD h]
theorem usg_take {t : Tr} {L : List Vis} {j : Nat} (h : j < L.length) (hp : (L.getD j V0).2 < t.length) : usg t (L.take (j + 1)) = if hasL (L.take j) (L.getD j V0).2 = true then usg t (L.take j) else usg t (L.take j) + (nod t (L.getD j V0).2).dl := by
  rw [List.take_succ_eq_append_getElem h, ← visD h, usg_snoc hp]
theorem Vs.far {w : World} {B : Nat} {v : Value} {L : List Vis} (h : Vs w B v L) {p : Addr} (hp : ∀ q, v.ownBlock = some q → q ≠ p.block) (u : Value) : Vs (w.setCell p u) B v L := by
  obtain ⟨b, c, rfl, hc, h0, hB, hj⟩ := h
  have hb := hp b rfl
  have k : ∀ o, (w.setCell p u).cell? ⟨b, o, none⟩ = w.cell? ⟨b, o, none⟩ := fun o => World.cell?_setCell_other w p _ u (fun e => hb (by rw [e]))
  refine ⟨b, c, rfl, hc, h0, hB, fun j hl => ?_⟩
  rw [k, k, k]
  exact hj j hl

theorem Vs.cell {w : World} {B rb n rc : Nat} {L : List Vis} (h : Vs w B (.slice (some ⟨rb, 0, none⟩) n rc) L) {j : Nat} (hj : j < L.length) : rb < B ∧ w.cell? ⟨rb, j * 3, none⟩ = some (.string (bP (L.getD j V0).1)) ∧ w.cell? ⟨rb, j * 3 + 1, none⟩ = some (.int .i64 ((L.getD j V0).1.length : Nat)) ∧ w.cell? ⟨rb, j * 3 + 2, none⟩ = some (.int .i64 ((L.getD j V0).2 : Nat)) := by
  obtain ⟨b, c, hve, _, _, hB, hx⟩ := h
  injection hve with hve _ _
  injection hve with hve
  injection hve with e1 _ _
  subst e1
  exact ⟨hB, hx j hj⟩
/-- What holds while the sizes are added. -/
structure UR (w wr : World) (a : Option Addr) (c : Nat) (t : Tr) (v : Value) (L : List Vis) (B j : Nat) : Prop where
  b : Below w.heap.size w wr
  tb : One wr w.heap.size (.slice a t.length c)
  row : Row wr (w.heap.size + 1) t.length (fun i => .bool (hasL (L.take j) i))
  vs : Vs wr B v L
theorem UR.step {w wr z : World} {a : Option Addr} {c : Nat} {t : Tr} {v : Value} {L : List Vis} {B j : Nat} (h : UR w wr a c t v L B j) (hb : Below wr.heap.size wr z) (hB : B ≤ wr.heap.size) : UR w z a c t v L B j :=
  ⟨h.b.trans (hb.mono h.b.size), h.tb.below hb h.tb.lt, h.row.below hb h.row.lt, h.vs.below (hb.mono hB)⟩
theorem UR.mark {w wr : World} {a : Option Addr} {c : Nat} {t : Tr} {v : Value} {L : List Vis} {B j m : Nat} (h : UR w wr a c t v L B j) (hv : ∀ q, v.ownBlock = some q → w.heap.size + 1 < q) (hj : j < L.length) (hm : (L.getD j V0).2 = m) (hmt : m < t.length) : UR w (wr.setCell ⟨w.heap.size + 1, m, none⟩ (.bool true)) a c t v L B (j + 1) :=
  ⟨h.b.setCell (by simp) _, h.tb.far (by simp) _, (h.row.put hmt _).ext (fun i _ => by
    rw [hasL_take hj, hm]
    by_cases e : i = m
    · subst e; simp
    · rw [if_neg e, decide_eq_false (fun h => e h.symm), Bool.or_false]), h.vs.far (fun q hq => by have := hv q hq; simp; omega) _⟩

set_option maxRecDepth 100000 in
set_option maxHeartbeats 3200000 in
theorem refUsage_any (a : Option Addr) (c : Nat) (t : Tr) (n : Nat) (w : World) (h1 : Ok1 t) (fr : From t n) (h : Nods w w.heap.size a c t) :
    Calls Try.prog 10 #[.agg #[.slice a t.length c], .int .i64 (n : Int)] w fun e w' => e = .returned (.int .i64 (usg t (visits t n) : Nat)) ∧ Below w.heap.size w w' := by
  have hn := fr.lt
  have hk := fr.used
  have H := Lib.hid h
  have H1 := Lib.hid h1
  have FR := Lib.hid fr
  have hmk := make_bools t.length h1.le
  have nlz : (n : Int) < (t.length : Int) := by omega
  have nz : (0 : Int) ≤ (n : Int) := Int.natCast_nonneg _
  obtain ⟨b, o, ve, vd, va, vx, rfl, hb, hc, hs⟩ := h.one hn
  have c0 := hc.c0
  have hkb : ((nod t n).k == 0) = false := by simpa using hk
  generalize (nod t n).k = gk at *
  have BB := Lib.hid (show Below w.heap.size w ((w.alloc (.cells #[.slice (some ⟨b, o, none⟩) t.length c] 24)).alloc (.cells (madeCells #[.bool false] t.length) 4)) from
    ((Below.refl _ _).alloc (Nat.le_refl _) _).alloc (by first | omega | (simp; done) | (simp; omega)) _)
  have TT := Lib.hid (show One ((w.alloc (.cells #[.slice (some ⟨b, o, none⟩) t.length c] 24)).alloc (.cells (madeCells #[.bool false] t.length) 4)) w.heap.size (.slice (some ⟨b, o, none⟩) t.length c) from (One.new w _ _).alloc _)
  have RR := Lib.hid (show Row ((w.alloc (.cells #[.slice (some ⟨b, o, none⟩) t.length c] 24)).alloc (.cells (madeCells #[.bool false] t.length) 4)) (w.heap.size + 1) t.length (fun _ => .bool false) from (row_new (w.alloc _) t.length (.bool false) _).at_ (by simp))
  have HQ := Lib.hid (routes_any (some ⟨b, o, none⟩) c t n _ h1 fr (h.up BB.out))
  clear hc hs h h1 fr hk
  go_enter Try.func10, Try.ntmps10
  go_wp2_with fail
  refine HQ.out.mono ?_
  rintro e w2 ⟨v, L, rfl, hvs, hperm, hlow, b2⟩
  have P := Lib.hid hperm
  have HU := Lib.hid (usg_perm t hperm)
  have hl6 : L.length ≤ 641 := by rw [← hperm.length_eq]; exact len_visits H1.out FR.out
  have hv : ∀ q, v.ownBlock = some q → w.heap.size + 1 < q := fun q hq => by have := hlow q hq; simp at this; omega
  have HV := Lib.hid hv
  have X0 := Lib.hid (show UR w w2 (some ⟨b, o, none⟩) c t v L w2.heap.size 0 from ⟨BB.out.trans (b2.mono (by first | omega | (simp; done) | (simp; omega))), TT.out.below b2 TT.out.lt, (RR.out.below b2 RR.out.lt).ext (fun _ _ => by simp [hasL]), hvs⟩)
  obtain ⟨rb, rc, rfl, hrc, hL0, _, _⟩ := hvs
  have hw2 := b2.size
  clear hperm hlow b2 HQ TT RR BB hv c0 hmk
  go_wp2_with fail
  go_loopg [7, 8] L.length (fun gg s7 s8 wr => ∃ j : Nat, j ≤ L.length ∧ L.length - j ≤ gg ∧ s7 = .int .i64 (usg t (L.take j) : Nat) ∧ s8 = .int .i64 j ∧ w2.heap.size ≤ wr.heap.size ∧ Aside (UR w wr (some ⟨b, o, none⟩) c t (.slice (some ⟨rb, 0, none⟩) L.length rc) L w2.heap.size j))
  case atStart => exact ⟨0, by omega, by omega, by rw [List.take_zero, usg_nil]; rfl, rfl, Nat.le_refl _, X0.out⟩
  case round =>
    obtain ⟨j, hj, hg, rfl, rfl, hw2r, X⟩ := hrel
    clear X0
    by_cases hlt : j < L.length
    · have hltz : (j : Int) < (L.length : Int) := by omega
      have hj0 : (0 : Int) ≤ (j : Int) := Int.natCast_nonneg _
      have hm9 : L.length - (j + 1) < L.length - j := Nat.sub_lt_sub_left hlt (Nat.lt_succ_self j)
      have r2 := (X.out.vs.cell hlt).2.2.2
      have hmem : L.getD j V0 ∈ L := by rw [visD hlt]; exact List.getElem_mem hlt
      have hrch := (mem_visits FR.out.fin (ys := (L.getD j V0).1) (m := (L.getD j V0).2)).1 (P.out.mem_iff.2 hmem)
      have hml := (H1.out.rch hrch FR.out.lt FR.out.used).1
      have HT := Lib.hid (usg_take (t := t) hlt hml)
      have hdl := (H1.out.fine (L.getD j V0).2).dl
      have hul := usg_le H1.out (L.take j)
      clear hmem hrch
      generalize hm : (L.getD j V0).2 = m at *
      have HM := Lib.hid hm
      clear hm
      have mlz : (m : Int) < (t.length : Int) := by omega
      have mz : (0 : Int) ≤ (m : Int) := Int.natCast_nonneg _
      have rr := X.out.row.c m hml
      have rf := X.out.row.fz m
      have rl := X.out.row.lt
      have tc := X.out.tb.c0
      have tl := X.out.tb.lt
      obtain ⟨b', o', ve, vd, va, vx, hae, hb', hc, hs⟩ := (H.out.up X.out.b).one hml
      injection hae with hae
      injection hae with e1 e2 _
      subst e1 e2
      obtain ⟨da, dc, rfl, _⟩ := hs.dl
      have g3 := hc.c3
      clear hc hs
      have XX := Lib.hid (X.out.mark HV.out hlt HM.out hml)
      generalize hu : usg t (L.take j) = u at *
      generalize (nod t m).dl = d at *
      cases hx : hasL (L.take j) m with
      | true =>
        rw [hx] at rr
        have HT2 := Lib.hid (show usg t (L.take (j + 1)) = u by rw [HT.out, if_pos hx])
        clear hx HT
        go_wp2
        go_roundg (L.length - (j + 1))
        case measure => exact Nat.lt_of_lt_of_le hm9 hg
        case rel => exact ⟨j + 1, by omega, by omega, by rw [HT2.out], by go_num, by simpa using hw2r, XX.out⟩
      | false =>
        rw [hx] at rr
        have HT2 := Lib.hid (show usg t (L.take (j + 1)) = u + d by rw [HT.out, if_neg (by rw [hx]; simp)])
        clear hx HT
        have dz : (0 : Int) ≤ (d : Int) := Int.natCast_nonneg _
        have uz : (0 : Int) ≤ (u : Int) := Int.natCast_nonneg _
        have hwr : IntKind.i64.wrap ((u : Int) + (d : Int)) = (u : Int) + (d : Int) := IntWalk.i64_in _ (by omega)
        have XY := Lib.hid ((X.out.step (Below.refl wr.heap.size wr).drew hw2r).mark HV.out hlt HM.out hml)
        clear XX
        go_wp2_with fail
        go_region
        all_goals
          go_wp2_with fail
          go_roundg (L.length - (j + 1))
          case measure => exact Nat.lt_of_lt_of_le hm9 hg
          case rel => exact ⟨j + 1, by omega, by omega, by rw [HT2.out]; go_num, by go_num, by simpa using hw2r, XY.out⟩
    · obtain rfl : j = L.length := by omega
      have hul := usg_le H1.out L
      go_wp2
      go_ret
      exact ⟨ret_int (by rw [List.take_length, HU.out]), X.out.b⟩

end Go.Proofs.Ytndhhofidkaomaa

/- What an argument of type api.Tree reads as, its files' bytes too. No condition: every such value that a machine can hold. -/

set_option linter.all false
namespace Go.Proofs.Ytndhhofidkaomaa
open Go.ChangeShapes Go.WideShapes Go.ChangeAt Go.RowKit Go.Deep

theorem u8_cellsQ : Try.prog.cellsOf 5 = 1 := by kernel_rfl
/-- The slice value vd has n cells that can be read. -/
def Bys (W : World) (vd : Value) (n : Nat) : Prop := ∃ (da : Option Addr) (dc : Nat) (bs : List Value), vd = .slice da n dc ∧ bs.length = n ∧ (∀ u ∈ bs, u.oneCell' = true) ∧ (da = none → n = 0) ∧ ∀ ad, da = some ad → ∀ i u, bs[i]? = some u → ad.block < W.heap.size ∧ W.cell? (ad.add i) = some u
/-- The slice at a (length, capacity) reads as the inodes t, their bytes too. -/
structure DNat (W : World) (a : Option Addr) (c : Nat) (t : Tr) : Prop where
  cap : t.length ≤ c
  len : t.length ≤ 35184372088832
  at_ : 0 < t.length → ∃ b o, a = some ⟨b, o, none⟩ ∧ b < W.heap.size ∧ ∀ j, j < t.length → ∃ ve vd va vx, NodC W b (o + j * 8) ve vd va vx (nod t j) ∧ NodS W W.heap.size ve vd va vx (nod t j) ∧ Bys W vd (nod t j).dl
theorem DNat.dnods {W : World} {a : Option Addr} {c : Nat} {t : Tr} (h : DNat W a c t) : DNods W W.heap.size a c t := by
  refine ⟨⟨h.cap, h.len, fun h0 => ?_⟩, fun j hj b o ha => ?_⟩
  · obtain ⟨b, o, ha, hb, hx⟩ := h.at_ h0
    exact ⟨b, o, ha, hb, fun j hj => by obtain ⟨ve, vd, va, vx, h1, h2, _⟩ := hx j hj; exact ⟨ve, vd, va, vx, h1, h2⟩⟩
  · obtain ⟨b', o', ha', hb, hx⟩ := h.at_ (by omega)
    rw [ha'] at ha
    injection ha with ha
    injection ha with ha1 ha2 _
    subst ha1 ha2
    obtain ⟨ve, vd, va, vx, h1, _, da, dc, bs, rfl, h4⟩ := hx j hj
    exact ⟨da, dc, bs, h1.c3, h4⟩

section
variable {H : Type} {enc : TypeId × Value → H} {W : World}
set_option maxRecDepth 100000 in
theorem bys_of {fuel : Nat} {a : Option Addr} {len cap : Nat} {x : DataW H × List MemPlace}
    (hf : DataW.trod enc Try.prog W 0 (fun _ => true) true fuel 43 [.slice a len cap] = some x) : Bys W (.slice a len cap) len := by
  rcases open_slice Try.underlying43 hf with ⟨hcs, hx⟩ | ⟨ad, len', cap', m, n, D, Pl, hcs, _, hl, hm, hmm, hx, hi⟩
  · simp at hcs
    obtain ⟨rfl, rfl, rfl⟩ := hcs
    exact ⟨none, 0, [], rfl, rfl, by simp, fun _ => rfl, fun ad e => (by cases e)⟩
  · simp at hcs
    obtain ⟨rfl, rfl, rfl⟩ := hcs
    simp only [if_true] at hmm
    have key : ∀ i, i < len → ∃ n : Int, W.cell? (ad.add i) = some (.int .u8 n) := by
      intro i hil
      obtain ⟨cs, hc, ht⟩ := hi i (by omega)
      rw [u8_cellsQ] at hc
      obtain ⟨_, hcl, hat⟩ := World.cells?_some hc
      have h0 := hat 0 (by omega)
      rw [Go.Deep.add_add] at h0
      obtain ⟨k, hk, _, fk⟩ := DataW.trod_int Try.underlying5 ht
      subst hk
      exact ⟨k, by simpa using h0⟩
    refine ⟨some ad, cap, (List.range len).map (fun i => (W.cell? (ad.add i)).getD undef), rfl, by simp, fun u hu => ?_, fun e => (by cases e), fun ad' e i u hu => ?_⟩
    · obtain ⟨i, hil, rfl⟩ := List.mem_map.1 hu
      obtain ⟨k, hk⟩ := key i (List.mem_range.1 hil)
      rw [hk]; rfl
    · injection e with e
      subst e
      have hil : i < len := by
        have := (List.getElem?_eq_some_iff.1 hu).1
        simpa using this
      obtain ⟨k, hk⟩ := key i hil
      rw [List.getElem?_map, List.getElem?_range hil] at hu
      simp only [Option.map_some, hk, Option.getD_some] at hu
      injection hu with hu
      subst hu
      exact ⟨by have := cell_lt hk; rwa [add_blockQ] at this, hk⟩
set_option maxRecDepth 100000 in
/-- Eight cells that read as an inode whose bytes can be read. -/
theorem dnod_of {n : Nat} {cs : List Value} {y : DataW H × List MemPlace}
    (h : DataW.trod enc Try.prog W 0 (fun _ => true) true n 47 cs = some y) (hw : Held Try.prog 47 y.1) :
    ∃ ve vd va vx x, cs = [.int .i64 x.k, .int .i64 x.o, ve, vd, va, vx, .int .i64 x.q, .int .i64 x.v] ∧ NodS W W.heap.size ve vd va vx x ∧ Bys W vd x.dl := by
  obtain ⟨ve, vd, va, vx, x, rfl, hS⟩ := nod_of h hw
  obtain ⟨_, y3, g3, _⟩ := trod_field nod_under nod_fields h (j := 3) (tj := 43) (oj := 3) rfl
  rw [sl_cells2] at g3
  simp only [List.drop_succ_cons, List.drop_zero, List.take_succ_cons, List.take_zero] at g3
  obtain ⟨a3, c3, rfl, hc3⟩ := id hS.dl
  exact ⟨_, _, _, _, x, rfl, hS, bys_of g3⟩

set_option maxRecDepth 100000 in
/-- One cell that reads as a tree whose files' bytes can be read. -/
theorem dtree_of {n : Nat} {cs : List Value} {y : DataW H × List MemPlace}
    (h : DataW.trod enc Try.prog W 0 (fun _ => true) true n 24 cs = some y) (hw : Held Try.prog 24 y.1) :
    ∃ (a : Option Addr) (c : Nat) (t : Tr), cs = [.slice a t.length c] ∧ DNat W a c t := by
  obtain ⟨xs, n', _, _, hlen, _, _⟩ := DataW.trod_struct tree_under h
  rw [tree_cells] at hlen
  obtain ⟨c0, rfl⟩ := one_of hlen
  obtain ⟨_, y0, g0, w0⟩ := trod_field tree_under tree_fields h (j := 0) (tj := 22) (oj := 0) rfl
  rw [sl_cells0] at g0
  simp only [List.drop_zero, List.take_succ_cons, List.take_zero] at g0
  replace w0 := w0 hw
  rcases open_slice Try.underlying22 g0 with ⟨hcs, hx⟩ | ⟨ad, len, cap, m, n, D, Pl, hcs, _, hl, hm, hmm, hx, hi⟩
  · exact ⟨none, 0, [], by simpa using hcs, ⟨by simp, by simp, fun h => absurd h (by simp)⟩⟩
  · rw [hcs]
    simp only [if_true] at hmm
    rw [hx] at w0
    have hr := w0.slice Try.underlying22
    rw [nod_bytes, reach_num] at hr
    simp only [List.length_map, List.length_range] at hr
    have key : ∀ i, i < len → ∃ x : Nod, ∃ ve vd va vx, (∃ cs', W.cells? 0 (ad.add (i * 8)) 8 = some cs' ∧ cs' = [.int .i64 x.k, .int .i64 x.o, ve, vd, va, vx, .int .i64 x.q, .int .i64 x.v]) ∧ NodS W W.heap.size ve vd va vx x ∧ Bys W vd x.dl := by
      intro i hil
      obtain ⟨cs', hc, ht⟩ := hi i (by omega)
      rw [nod_cells] at hc
      obtain ⟨ve, vd, va, vx, x, h1, h2⟩ := dnod_of ht (w0.elem Try.underlying22 (List.mem_map.2 ⟨i, List.mem_range.2 hil, rfl⟩))
      exact ⟨x, ve, vd, va, vx, ⟨cs', hc, h1⟩, h2⟩
    obtain ⟨X, hX⟩ := choose_lt (α := Nod) (p := fun i x => ∃ ve vd va vx, (∃ cs', W.cells? 0 (ad.add (i * 8)) 8 = some cs' ∧ cs' = [.int .i64 x.k, .int .i64 x.o, ve, vd, va, vx, .int .i64 x.q, .int .i64 x.v]) ∧ NodS W W.heap.size ve vd va vx x ∧ Bys W vd x.dl) key
    refine ⟨some ad, cap, (List.range len).map X, by simp, ⟨by simp; omega, by simp; omega, fun hp0 => ?_⟩⟩
    have hp : 0 < len := by simpa using hp0
    clear hp0
    obtain ⟨b, off, spot⟩ := ad
    obtain ⟨_, _, _, _, ⟨cs', hc, rfl⟩, _⟩ := hX 0 hp
    obtain ⟨_, _, hat⟩ := World.cells?_some hc
    have hc0 := hat 0 (by omega)
    have hspot : spot = none := by simpa [Addr.add] using World.cell?_spot hc0
    subst hspot
    have hlt : b < W.heap.size := by have := cell_lt hc0; simpa [Addr.add] using this
    clear hc hat hc0
    refine ⟨b, off, rfl, hlt, fun j hj => ?_⟩
    have hj : j < len := by simpa using hj
    have hg : nod ((List.range len).map X) j = X j := by
      unfold nod
      rw [List.getD_eq_getElem?_getD, List.getElem?_eq_getElem (by simpa using hj)]; simp
    rw [hg]
    obtain ⟨ve, vd, va, vx, ⟨cs', hc, rfl⟩, hS⟩ := hX j hj
    obtain ⟨_, _, hat⟩ := World.cells?_some hc
    refine ⟨ve, vd, va, vx, ?_, hS⟩
    have h0 := hat 0 (by omega)
    have h1 := hat 1 (by omega)
    have h2 := hat 2 (by omega)
    have h3 := hat 3 (by omega)
    have h4 := hat 4 (by omega)
    have h5 := hat 5 (by omega)
    have h6 := hat 6 (by omega)
    have h7 := hat 7 (by omega)
    rw [Go.Deep.add_add, add_plain] at h0 h1 h2 h3 h4 h5 h6 h7
    exact ⟨h0, h1, h2, h3, h4, h5, h6, h7⟩
end

end Go.Proofs.Ytndhhofidkaomaa
