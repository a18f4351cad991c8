/- Package memfs and what it calls, at this seat's translation.
   Condition: as each theorem states; this text: FsPathC, FsLink, FsRes, MfDel, FsUsage, FsQuota. -/
import Derived.Test.YtmbbmmnpkdfecaaGreatDoorMb9
import Derived.Laws.EntriesVeiled
import Derived.Test.YtmbbmmnpkdfecaaGreatDoorMb7
import Derived.Test.YtmbbmmnpkdfecaaGreatDoorMb5
import Derived.OwnWalk
import Derived.Deep.Quiet
import Derived.Shelf.SlicesE.Kit
import Derived.IntWalk

set_option linter.all false

/- pathCheck: what the walk marks, and the function that pathCheck returns. Conditions: the tree's directories are referred to once; its cells lie in memory as they read. -/

set_option linter.all false
namespace Go.Proofs.YtmbbmmnpkdfecaaGreatDoor
open Go.RowKit

/-- The two rows that the walk marks, and the variables that hold them. -/
structure PMark (W : World) (m p3 p4 R1 R2 : Nat) (L : List Vis) : Prop where
  r1 : Row W R1 m (fun j => .bool (hasL L j))
  r2 : Row W R2 m (fun j => .bool (farL L j))
  v1 : One W p3 (.slice (some ⟨R1, 0, none⟩) m m)
  v2 : One W p4 (.slice (some ⟨R2, 0, none⟩) m m)
theorem PMark.below {W W' : World} {m p3 p4 R1 R2 B : Nat} {L : List Vis} (h : PMark W m p3 p4 R1 R2 L) (hb : Below B W W') (h1 : R1 < B) (h2 : R2 < B) (h3 : p3 < B) (h4 : p4 < B) : PMark W' m p3 p4 R1 R2 L :=
  ⟨h.r1.below hb h1, h.r2.below hb h2, h.v1.below hb h3, h.v2.below hb h4⟩
theorem Strs.setLow {W : World} {B : Nat} {v : Value} {xs : List ByteArray} (h : Strs W B v xs) {H0 : Nat} (hv : ∀ q, v.ownBlock = some q → H0 ≤ q) {p : Addr} (hp : p.block < H0) (u : Value) : Strs (W.setCell p u) B v xs := by
  obtain ⟨a, c, rfl, hc, hl, hs, hx⟩ := h
  refine ⟨a, c, rfl, hc, hl, hs, fun h0 => ?_⟩
  obtain ⟨b, o, rfl, hB, hj⟩ := hx h0
  have := hv b rfl
  exact ⟨b, o, rfl, hB, fun j hjl => (World.cell?_setCell_other W p _ u (fun e => by rw [e] at hp; simp at hp; omega)).trans (hj j hjl)⟩
theorem Kept.set {S : Nat → Prop} {a b : World} {row : Option Nat} (h : Kept S row a b) {R i : Nat} (hS : S R) (u : Value) : Kept S row a (b.setCell ⟨R, i, none⟩ u) :=
  h.trans ⟨rfl, rfl, rfl, by simp, fun k _ hs _ => Below.heap_setCell b _ u k (fun e => hs (by rw [e]; exact hS))⟩

set_option maxRecDepth 100000 in
set_option maxHeartbeats 1600000 in
theorem pathMark_any (m p3 p4 R1 R2 H0 : Nat) (d1 : R1 < p3) (d2 : p3 < R2) (d3 : R2 < p4) (d4 : p4 < H0) (W : World) (L : List Vis) (xs : List ByteArray) (n : Nat) (v : Value) (hH : H0 ≤ W.heap.size) (h : PMark W m p3 p4 R1 R2 L) (hn : n < m) (_hm : m ≤ 40) (hx : Strs W W.heap.size v xs) (hv : ∀ q, v.ownBlock = some q → H0 ≤ q) :
    Calls Tryz.prog 109 #[v, .int .i64 (n : Int), .pointer (some ⟨p3, 0, none⟩), .pointer (some ⟨p4, 0, none⟩)] W fun e W' => e = .returned (.tuple #[]) ∧ PMark W' m p3 p4 R1 R2 (L ++ [(xs, n)]) ∧ Kept (fun b => b = R1 ∨ b = R2) none W W' := by
  have nlz : (n : Int) < (m : Int) := by omega
  have nz : (0 : Int) ≤ (n : Int) := Int.natCast_nonneg _
  have HC := Lib.hid (pathJoin_any v xs (W.setCell ⟨R1, n, none⟩ (.bool true)) (by simpa using hx.setLow hv (p := ⟨R1, n, none⟩) (by simp; omega) (.bool true)))
  have HT := Lib.hid (show tooFar xs = decide ((joinF xs).1 ≠ 0) from rfl)
  unfold joinV faultV at HC
  generalize joinS xs = S at *
  generalize (joinF xs).2 = ji at *
  generalize (joinF xs).1 = jc at *
  have c1 := h.v1.c0
  have rc := h.r1.c n hn
  have rz := h.r1.fz n
  have rl := h.r1.lt
  have M1 := Lib.hid (show Row (W.setCell ⟨R1, n, none⟩ (.bool true)) R1 m (fun j => .bool (hasL (L ++ [(xs, n)]) j)) ∧ Row (W.setCell ⟨R1, n, none⟩ (.bool true)) R2 m (fun j => .bool (farL L j)) ∧ One (W.setCell ⟨R1, n, none⟩ (.bool true)) p3 (.slice (some ⟨R1, 0, none⟩) m m) ∧ One (W.setCell ⟨R1, n, none⟩ (.bool true)) p4 (.slice (some ⟨R2, 0, none⟩) m m) from
    ⟨(h.r1.put hn (.bool true)).ext (fun j _ => by
      rw [hasL_snoc]
      by_cases e : j = n
      · subst e; simp
      · rw [if_neg e, decide_eq_false (fun h => e h.symm), Bool.or_false]), h.r2.far (by simp; omega) _, h.v1.far (by simp; omega) _, h.v2.far (by simp; omega) _⟩)
  clear hx h
  have hl9 : R2 < W.heap.size := by omega
  have hl8 : p4 < W.heap.size := by omega
  have hl7 : p3 < W.heap.size := by omega
  by_cases hj : jc = 0
  · subst hj
    have HF := Lib.hid (show ∀ j, farL (L ++ [(xs, n)]) j = farL L j from fun j => by rw [farL_snoc]; simp only; rw [HT.out]; simp)
    go_enter Tryz.func109, Tryz.ntmps109
    go_wp2_with fail
    refine HC.out.mono ?_
    rintro e W2 ⟨rfl, b2⟩
    have s2 := b2.size
    simp only [World.size_setCell] at s2
    have MM := Lib.hid (show PMark (W2.alloc (.cells #[.int .i64 0, .int .i64 ji] 37)) m p3 p4 R1 R2 (L ++ [(xs, n)]) from
      ⟨(M1.out.1.below b2 M1.out.1.lt).alloc _, ((M1.out.2.1.below b2 M1.out.2.1.lt).ext (fun j _ => by rw [HF.out])).alloc _, (M1.out.2.2.1.below b2 M1.out.2.2.1.lt).alloc _, (M1.out.2.2.2.below b2 M1.out.2.2.2.lt).alloc _⟩)
    have KK := Lib.hid (show Kept (fun b => b = R1 ∨ b = R2) none W (W2.alloc (.cells #[.int .i64 0, .int .i64 ji] 37)) from
      (((Kept.refl _ _ _).set (.inl rfl) _).trans (Kept.of_below b2)).trans (Kept.of_below ((Below.refl _ _).alloc (Nat.le_refl _) _)))
    clear b2
    go_wp2
    go_end0
    exact ⟨rfl, MM.out, KK.out⟩
  · have hj1 : (jc != 0) = true := by simpa using hj
    have hj2 : (jc == 0) = false := by simpa using hj
    have HF := Lib.hid (show ∀ j, (if j = n then Value.bool true else Value.bool (farL L j)) = .bool (farL (L ++ [(xs, n)]) j) from fun j => by
      rw [farL_snoc]
      simp only
      rw [HT.out]
      by_cases e : j = n
      · subst e; simp [hj]
      · rw [if_neg e, decide_eq_false (fun h => e h.symm), Bool.false_and, Bool.or_false])
    clear hj
    go_enter Tryz.func109, Tryz.ntmps109
    go_wp2_with fail
    refine HC.out.mono ?_
    rintro e W2 ⟨rfl, b2⟩
    have s2 := b2.size
    simp only [World.size_setCell] at s2
    have c2 := ((M1.out.2.2.2.below b2 M1.out.2.2.2.lt)).c0
    have X2 := Lib.hid (M1.out.2.1.below b2 M1.out.2.1.lt)
    have rc2 := X2.out.c n hn
    have rz2 := X2.out.fz n
    have rl2 := X2.out.lt
    have hl2 : p4 < W2.heap.size := by omega
    have MM := Lib.hid (show PMark ((W2.setCell ⟨R2, n, none⟩ (.bool true)).alloc (.cells #[.int .i64 jc, .int .i64 ji] 37)) m p3 p4 R1 R2 (L ++ [(xs, n)]) from
      ⟨((M1.out.1.below b2 M1.out.1.lt).far (by simp; omega) _).alloc _, ((X2.out.put hn _).ext (fun j _ => HF.out j)).alloc _, ((M1.out.2.2.1.below b2 M1.out.2.2.1.lt).far (by simp; omega) _).alloc _, ((M1.out.2.2.2.below b2 M1.out.2.2.2.lt).far (by simp; omega) _).alloc _⟩)
    have KK := Lib.hid (show Kept (fun b => b = R1 ∨ b = R2) none W ((W2.setCell ⟨R2, n, none⟩ (.bool true)).alloc (.cells #[.int .i64 jc, .int .i64 ji] 37)) from
      ((((Kept.refl _ _ _).set (.inl rfl) _).trans (Kept.of_below b2)).set (.inr rfl) _).trans (Kept.of_below ((Below.refl _ _).alloc (Nat.le_refl _) _)))
    clear b2
    go_wp2
    go_end0
    exact ⟨rfl, MM.out, KK.out⟩

set_option maxRecDepth 100000 in
set_option maxHeartbeats 800000 in
theorem pathCheck2_any (a : Option Addr) (c : Nat) (t : Tr) (n pt p3 p4 R1 R2 : Nat) (w : World) (h : Nods w w.heap.size a c t) (hp : One w pt (.slice a t.length c)) (hM : PMark w t.length p3 p4 R1 R2 (visits t 0)) (hn : n < t.length) :
    Calls Tryz.prog 111 #[.int .i64 (n : Int), .pointer (some ⟨pt, 0, none⟩), .pointer (some ⟨p3, 0, none⟩), .pointer (some ⟨p4, 0, none⟩)] w fun e w' => e = .returned (.int .i64 (codeP t n)) ∧ Below w.heap.size w w' := by
  have nlz : (n : Int) < (t.length : Int) := by omega
  have nz : (0 : Int) ≤ (n : Int) := Int.natCast_nonneg _
  have HU := Lib.hid (isUsed_any a c t (n : Int) w h)
  have hu : used t (n : Int) = decide ((nod t n).k ≠ 0) := by
    rw [used_at nz nlz, Int.toNat_natCast, Bool.eq_iff_iff]; simp
  have HF := Lib.hid (show codeP t n = if (nod t n).k ≠ 0 ∧ hasL (visits t 0) n = false then 11 else if farL (visits t 0) n = true then 10 else 0 from rfl)
  rw [hu] at HU
  have hpc := hp.c0
  have hpl := hp.lt
  have c1 := hM.v1.c0
  have c2 := hM.v2.c0
  have r1 := hM.r1.c n hn
  have r2 := hM.r2.c n hn
  have l1 := hM.v1.lt
  have l2 := hM.v2.lt
  have l3 := hM.r1.lt
  have l4 := hM.r2.lt
  clear h hp hM hu
  generalize codeP t n = r at *
  generalize hasL (visits t 0) n = x at *
  generalize farL (visits t 0) n = y at *
  generalize (nod t n).k = k at *
  have post : ∀ (x y : Bool) (u : Bool) (r : Int), r = (if u = true ∧ x = false then 11 else if y = true then 10 else 0) → True := fun _ _ _ _ _ => trivial
  clear post
  by_cases hk : k ≠ 0
  · rw [decide_eq_true hk] at HU
    cases x with
    | false =>
      rw [if_pos ⟨hk, rfl⟩] at HF
      clear hk
      go_enter Tryz.func111, Tryz.ntmps111
      go_wp2_with fail
      refine HU.out.mono ?_
      rintro e w2 ⟨rfl, b2⟩
      have k1 := (b2.cell (p := ⟨p3, 0, none⟩) l1).trans c1
      have k2 := (b2.cell (p := ⟨R1, n, none⟩) l3).trans r1
      have B2 := Lib.hid b2
      clear b2
      go_wp2
      go_ret
      exact ⟨ret_int HF.out.symm, B2.out⟩
    | true =>
      rw [if_neg (by simp)] at HF
      clear hk
      cases y with
      | false =>
        rw [if_neg (by simp)] at HF
        go_enter Tryz.func111, Tryz.ntmps111
        go_wp2_with fail
        refine HU.out.mono ?_
        rintro e w2 ⟨rfl, b2⟩
        have k1 := (b2.cell (p := ⟨p3, 0, none⟩) l1).trans c1
        have k2 := (b2.cell (p := ⟨R1, n, none⟩) l3).trans r1
        have k3 := (b2.cell (p := ⟨p4, 0, none⟩) l2).trans c2
        have k4 := (b2.cell (p := ⟨R2, n, none⟩) l4).trans r2
        have B2 := Lib.hid b2
        clear b2
        go_wp2
        go_ret
        exact ⟨ret_int HF.out.symm, B2.out⟩
      | true =>
        rw [if_pos rfl] at HF
        go_enter Tryz.func111, Tryz.ntmps111
        go_wp2_with fail
        refine HU.out.mono ?_
        rintro e w2 ⟨rfl, b2⟩
        have k1 := (b2.cell (p := ⟨p3, 0, none⟩) l1).trans c1
        have k2 := (b2.cell (p := ⟨R1, n, none⟩) l3).trans r1
        have k3 := (b2.cell (p := ⟨p4, 0, none⟩) l2).trans c2
        have k4 := (b2.cell (p := ⟨R2, n, none⟩) l4).trans r2
        have B2 := Lib.hid b2
        clear b2
        go_wp2
        go_ret
        exact ⟨ret_int HF.out.symm, B2.out⟩
  · rw [decide_eq_false hk] at HU
    rw [if_neg (fun h => hk h.1)] at HF
    clear hk
    cases y with
    | false =>
      rw [if_neg (by simp)] at HF
      go_enter Tryz.func111, Tryz.ntmps111
      go_wp2_with fail
      refine HU.out.mono ?_
      rintro e w2 ⟨rfl, b2⟩
      have k3 := (b2.cell (p := ⟨p4, 0, none⟩) l2).trans c2
      have k4 := (b2.cell (p := ⟨R2, n, none⟩) l4).trans r2
      have B2 := Lib.hid b2
      clear b2
      go_wp2
      go_ret
      exact ⟨ret_int HF.out.symm, B2.out⟩
    | true =>
      rw [if_pos rfl] at HF
      go_enter Tryz.func111, Tryz.ntmps111
      go_wp2_with fail
      refine HU.out.mono ?_
      rintro e w2 ⟨rfl, b2⟩
      have k3 := (b2.cell (p := ⟨p4, 0, none⟩) l2).trans c2
      have k4 := (b2.cell (p := ⟨R2, n, none⟩) l4).trans r2
      have B2 := Lib.hid b2
      clear b2
      go_wp2
      go_ret
      exact ⟨ret_int HF.out.symm, B2.out⟩

theorem foldl_snoc {α : Type} : ∀ (l acc : List α), l.foldl (fun L p => L ++ [p]) acc = acc ++ l
  | [], acc => by simp
  | a :: l, acc => by rw [List.foldl_cons, foldl_snoc l]; simp
theorem eg_path1 : ∀ args w, (callFunc 109 args).run Tryz.prog w = .ok (.enter 109 args) w := enters_of Tryz.func109 (by kernel_rfl) rfl
theorem eg_path2 : ∀ args w, (callFunc 111 args).run Tryz.prog w = .ok (.enter 111 args) w := enters_of Tryz.func111 (by kernel_rfl) rfl

set_option maxRecDepth 100000 in
set_option maxHeartbeats 1600000 in
theorem pathCheck_any (a : Option Addr) (c : Nat) (t : Tr) (w : World) (h2 : Ok2 t) (h : Nods w w.heap.size a c t) :
    Calls Tryz.prog 58 #[.agg #[.slice a t.length c]] w (CheckPost t 2 w) := by
  have H := Lib.hid h
  have H2 := Lib.hid h2
  have hmk := make_bools t.length h2.le
  clear h h2
  have MM := Lib.hid (show PMark (((((w.alloc (.cells #[.slice a t.length c] 24)).alloc (.cells (madeCells #[.bool false] t.length) 4)).alloc (.cells #[.slice (some ⟨w.heap.size + 1, 0, none⟩) t.length t.length] 139)).alloc (.cells (madeCells #[.bool false] t.length) 4)).alloc (.cells #[.slice (some ⟨w.heap.size + 1 + 1 + 1, 0, none⟩) t.length t.length] 139)) t.length (w.heap.size + 1 + 1) (w.heap.size + 1 + 1 + 1 + 1) (w.heap.size + 1) (w.heap.size + 1 + 1 + 1) [] from
    ⟨(((((row_new (w.alloc _) t.length (.bool false) _).alloc _).alloc _).alloc _).at_ (by simp)).ext (fun _ _ => rfl), ((((row_new (((w.alloc _).alloc _).alloc _) t.length (.bool false) _).alloc _)).at_ (by simp)).ext (fun _ _ => rfl), (((One.new ((w.alloc _).alloc _) _ _).alloc _).alloc _).at_ (by simp), (One.new ((((w.alloc _).alloc _).alloc _).alloc _) _ _).at_ (by simp)⟩)
  have TB := Lib.hid (show One (((((w.alloc (.cells #[.slice a t.length c] 24)).alloc (.cells (madeCells #[.bool false] t.length) 4)).alloc (.cells #[.slice (some ⟨w.heap.size + 1, 0, none⟩) t.length t.length] 139)).alloc (.cells (madeCells #[.bool false] t.length) 4)).alloc (.cells #[.slice (some ⟨w.heap.size + 1 + 1 + 1, 0, none⟩) t.length t.length] 139)) w.heap.size (.slice a t.length c) from
    ((((One.new w _ _).alloc _).alloc _).alloc _).alloc _)
  have BB := Lib.hid (show Below w.heap.size w (((((w.alloc (.cells #[.slice a t.length c] 24)).alloc (.cells (madeCells #[.bool false] t.length) 4)).alloc (.cells #[.slice (some ⟨w.heap.size + 1, 0, none⟩) t.length t.length] 139)).alloc (.cells (madeCells #[.bool false] t.length) 4)).alloc (.cells #[.slice (some ⟨w.heap.size + 1 + 1 + 1, 0, none⟩) t.length t.length] 139)) from
    (((((Below.refl _ _).alloc (Nat.le_refl _) _).alloc (by first | omega | (simp; done) | (simp; omega)) _).alloc (by first | omega | (simp; done) | (simp; omega)) _).alloc (by first | omega | (simp; done) | (simp; omega)) _).alloc (by first | omega | (simp; done) | (simp; omega)) _)
  go_enter Tryz.func58, Tryz.ntmps58
  go_wp2_with fail
  have VV : Visitor t 0 109 #[.pointer (some ⟨w.heap.size + 1 + 1, 0, none⟩), .pointer (some ⟨w.heap.size + 1 + 1 + 1 + 1, 0, none⟩)] (fun b => b = w.heap.size + 1 ∨ b = w.heap.size + 1 + 1 + 1) (w.heap.size + 5) (fun W L => PMark W t.length (w.heap.size + 1 + 1) (w.heap.size + 1 + 1 + 1 + 1) (w.heap.size + 1) (w.heap.size + 1 + 1 + 1) L) (fun L p => L ++ [p]) := by
    refine ⟨eg_path1, fun b hb => by omega, fun W W' s hI hb => hI.below hb (by omega) (by omega) (by omega) (by omega), fun W s xs n v hH hI hr hx hv => ?_⟩
    have hnr := H2.out.toOk1.rch hr H2.out.ne (by rw [H2.out.root]; simp)
    exact pathMark_any t.length _ _ _ _ (w.heap.size + 5) (by omega) (by omega) (by omega) (by omega) W s xs n v hH hI hnr.1 H2.out.le hx hv
  have HW := walk_any VV H2.out.toOk1 H2.out.from0 (Bt := w.heap.size) (by omega) (fun b hb => by omega) a c _ [] (H.out.below BB.out) (by first | omega | (simp; done) | (simp; omega)) MM.out
  clear VV
  refine HW.mono ?_
  rintro e W2 ⟨rfl, I2, K2⟩
  rw [foldl_snoc, List.nil_append] at I2
  have T2 := Lib.hid (TB.out.kept K2 (by omega) (by simp))
  have B2 := Lib.hid (BB.out.trans (K2.below (by first | omega | (simp; done) | (simp; omega)) (fun k hk => by omega) (by simp)))
  have M2 := Lib.hid I2
  clear I2 K2 HW
  go_wp2
  go_ret
  refine ⟨_, _, rfl, B2.out, eg_path2, fun W hW n hn => ?_⟩
  exact pathCheck2_any a c t n w.heap.size _ _ _ _ W (H.out.up (B2.out.trans (hW.mono B2.out.size))) (T2.out.below hW T2.out.lt) (M2.out.below hW M2.out.r1.lt M2.out.r2.lt M2.out.v1.lt M2.out.v2.lt) hn

end Go.Proofs.YtmbbmmnpkdfecaaGreatDoor

/- The reference's LinkCount: how many entries refer to an inode. Conditions: the tree's inodes are valid by themselves; its cells lie in memory as they read. -/

set_option linter.all false
namespace Go.Proofs.YtmbbmmnpkdfecaaGreatDoor
open Go.RowKit

theorem cnt_step {t : Tr} {i k n q : Nat} {x : ByteArray} {ei : Int} (hk : k < (kids t i).length) (he : (kids t i).getD k D0 = ⟨x, ei⟩) (hq : cntE (upto t i k) n = q) : cntE (upto t i (k + 1)) n = q + if ei = (n : Int) then 1 else 0 := by
  rw [upto_succ hk, cntE_snoc, he, hq]

set_option maxRecDepth 100000 in
set_option maxHeartbeats 3200000 in
theorem linkCount_any (a : Option Addr) (c : Nat) (t : Tr) (n : Nat) (w : World) (h1 : Ok1 t) (h : Nods w w.heap.size a c t) :
    Calls Tryz.prog 74 #[.agg #[.slice a t.length c], .int .i64 (n : Int)] w fun e w' => e = .returned (.int .i64 (refs t n : Nat)) ∧ Below w.heap.size w w' := by
  have H := Lib.hid h
  have H1 := Lib.hid h1
  have h40 := h1.le
  have hU := Lib.hid (show cntE (upto t 0 0) n = 0 by rw [upto_zero]; rfl)
  have hA := Lib.hid (upto_all t n)
  clear h h1
  have T0 := Lib.hid (One.new w (.slice a t.length c) 24)
  have B0 := Lib.hid ((Below.refl w.heap.size w).alloc (Nat.le_refl _) (.cells #[.slice a t.length c] 24))
  go_enter Tryz.func74, Tryz.ntmps74
  go_wp2_with fail
  go_loopg [5, 6, 7] t.length (fun gg s5 s6 _ wr => ∃ i : Nat, i ≤ t.length ∧ t.length - i ≤ gg ∧ s5 = .int .i64 (cntE (upto t i 0) n : Nat) ∧ s6 = .int .i64 i ∧ Aside (Below w.heap.size w wr) ∧ Aside (One wr w.heap.size (.slice a t.length c)))
  case atStart => exact ⟨0, by omega, by omega, by rw [hU.out]; rfl, rfl, B0.out, T0.out⟩
  case round =>
    obtain ⟨i, hi, hg, rfl, rfl, B, T⟩ := hrel
    obtain ⟨w2, rfl⟩ : ∃ w2 : World, w2 = wr := ⟨_, rfl⟩
    clear T0 B0 hU
    have tc := T.out.c0
    have tl := T.out.lt
    by_cases hlt : i < t.length
    · have hltz : (i : Int) < (t.length : Int) := by omega
      have hi0 : (0 : Int) ≤ (i : Int) := Int.natCast_nonneg _
      have hm9 : t.length - (i + 1) < t.length - i := Nat.sub_lt_sub_left hlt (Nat.lt_succ_self i)
      obtain ⟨b, o, ve, vd, va, vx, rfl, hb, hc, hs⟩ := (H.out.below B.out).one hlt
      obtain ⟨ea, ec, rfl, hec, hel, hef, hex⟩ := hs.es
      have h2 := hc.c2
      change (kids t i).length ≤ ec at hec
      change (kids t i).length ≤ 35184372088832 at hel
      change w2.cell? ⟨b, o + i * 8 + 2, none⟩ = some (.slice ea (kids t i).length ec) at h2
      have HEX := Lib.hid (show 0 < (kids t i).length → ∃ b o, ea = some ⟨b, o, none⟩ ∧ b < w.heap.size ∧ ∀ j, j < (kids t i).length →
        w2.cell? ⟨b, o + j * 2, none⟩ = some (.string ((kids t i).getD j D0).n) ∧ w2.cell? ⟨b, o + j * 2 + 1, none⟩ = some (.int .i64 ((kids t i).getD j D0).i) from hex)
      have HCL := Lib.hid (fun k => cnt_le H1.out i k n hi)
      have HUN := Lib.hid (upto_next hlt)
      have HST := Lib.hid (fun (k q : Nat) (x : ByteArray) (ei : Int) => cnt_step (t := t) (i := i) (k := k) (n := n) (q := q) (x := x) (ei := ei))
      clear hc hs hef hex
      generalize hm : (kids t i).length = m at *
      go_wp2_with fail
      go_loopg [5, 7] m (fun gg s5 s7 wq => ∃ k : Nat, k ≤ m ∧ m - k ≤ gg ∧ s5 = .int .i64 (cntE (upto t i k) n : Nat) ∧ s7 = .int .i64 k ∧ Aside (w2 = wq))
      case atStart => exact ⟨0, by omega, by omega, rfl, rfl, rfl⟩
      case round =>
        obtain ⟨k, hk, hg2, rfl, rfl, hw⟩ := hrel
        have hw2 := hw.out
        subst hw2
        clear hw
        by_cases hlk : k < m
        · have hlkz : (k : Int) < (m : Int) := by omega
          have hk0 : (0 : Int) ≤ (k : Int) := Int.natCast_nonneg _
          obtain ⟨be, oe, rfl, hbe, hje⟩ := HEX.out (by omega)
          have g1 := (hje k hlk).2
          have hcb := HCL.out k
          clear hje
          generalize hy : (kids t i).getD k D0 = e at *
          obtain ⟨x, ei⟩ := e
          simp only at g1
          generalize hq : cntE (upto t i k) n = q at *
          have HS := Lib.hid (HST.out k q x ei hlk hy hq)
          clear hy hq
          by_cases he : ei = (n : Int)
          · subst he
            rw [if_pos rfl] at HS
            go_wp2
            go_roundg (m - (k + 1))
            case measure => omega
            case rel => exact ⟨k + 1, by omega, by omega, by rw [HS.out]; go_num, by go_num, rfl⟩
          · have heb : (ei == (n : Int)) = false := by simpa using he
            rw [if_neg he] at HS
            clear he
            go_wp2
            go_roundg (m - (k + 1))
            case measure => omega
            case rel => exact ⟨k + 1, by omega, by omega, by rw [HS.out]; rfl, by go_num, rfl⟩
        · obtain rfl : k = m := by omega
          go_wp2
          go_roundg (t.length - (i + 1))
          case measure => exact Nat.lt_of_lt_of_le hm9 hg
          case rel => exact ⟨i + 1, by omega, by omega, by rw [← HUN.out], by go_num, B.out, T.out⟩
    · obtain rfl : i = t.length := by omega
      go_wp2
      go_ret
      exact ⟨ret_int (by rw [hA.out]), B.out⟩

end Go.Proofs.YtmbbmmnpkdfecaaGreatDoor

/- What Lookup returns, in plain words; the reference's Resolve at every valid tree and list of components. Conditions: the tree's inodes are valid by themselves; the cells lie in memory as they read. -/

set_option linter.all false
namespace Go.Proofs.YtmbbmmnpkdfecaaGreatDoor
open Go.RowKit

/-- The walk along components from an inode: the inode, the code and the place of the fault. -/
def resT (t : Tr) : List ByteArray → Nat → Nat → Nat × Int × Nat
  | [], n, _ => (n, 0, 0)
  | x :: r, n, i => if (nod t n).k = 2 then (0, 8, i) else if fndE (kids t n) x = true then resT t r ((kids t n).getD (lowE (kids t n) x) D0).i.toNat (i + 1) else (0, 6, i)
theorem resT_file {t : Tr} {xs : List ByteArray} {n i : Nat} (h : i < xs.length) (hk : (nod t n).k = 2) : resT t (xs.drop i) n i = (0, 8, i) := by
  rw [List.drop_eq_getElem_cons h, resT, if_pos hk]
theorem resT_miss {t : Tr} {xs : List ByteArray} {n i : Nat} (h : i < xs.length) (hk : (nod t n).k ≠ 2) (hf : fndE (kids t n) (xs.getD i ByteArray.empty) = false) : resT t (xs.drop i) n i = (0, 6, i) := by
  rw [getD_eq h] at hf
  rw [List.drop_eq_getElem_cons h, resT, if_neg hk, if_neg (by rw [hf]; simp)]
theorem resT_hit {t : Tr} {xs : List ByteArray} {n i : Nat} (h : i < xs.length) (hk : (nod t n).k ≠ 2) (hf : fndE (kids t n) (xs.getD i ByteArray.empty) = true) : resT t (xs.drop i) n i = resT t (xs.drop (i + 1)) ((kids t n).getD (lowE (kids t n) (xs.getD i ByteArray.empty)) D0).i.toNat (i + 1) := by
  rw [getD_eq h] at hf ⊢
  rw [List.drop_eq_getElem_cons h, resT, if_neg hk, if_pos hf]
theorem resT_end {t : Tr} {xs : List ByteArray} {n : Nat} : resT t (xs.drop xs.length) n xs.length = (n, 0, 0) := by
  rw [List.drop_length, resT]
/-- What is known of an entry that is found. -/
theorem kid_found {t : Tr} (h1 : Ok1 t) {n : Nat} {x : ByteArray} (hf : fndE (kids t n) x = true) : lowE (kids t n) x < (kids t n).length ∧ 0 < ((kids t n).getD (lowE (kids t n) x) D0).i ∧ ((kids t n).getD (lowE (kids t n) x) D0).i.toNat < t.length ∧ (nod t ((kids t n).getD (lowE (kids t n) x) D0).i.toNat).k ≠ 0 := by
  have h2 := h1.kid ((found_iff (h1.fine n).srt).1 hf).1
  exact ⟨(fndE_iff.1 hf).1, h2.2.1, h2.2.2.1, h2.2.2.2.1⟩
/-- The inode that the reference's loop over the first k entries leaves. -/
def Last (es : List DE) (x : ByteArray) (k : Nat) (to : Int) : Prop := ((∀ e ∈ es.take k, e.n ≠ x) ∧ to = -1) ∨ ∃ e ∈ es.take k, e.n = x ∧ to = e.i
theorem last_zero (es : List DE) (x : ByteArray) : Last es x 0 (-1) := .inl ⟨by simp, rfl⟩
theorem last_hit {es : List DE} {x : ByteArray} {k : Nat} {i : Int} {y : ByteArray} (hk : k < es.length) (hy : es.getD k D0 = ⟨y, i⟩) (he : y = x) : Last es x (k + 1) i :=
  .inr ⟨es.getD k D0, by rw [List.take_succ_eq_append_getElem hk, deD hk]; exact List.mem_append_right _ (List.mem_singleton.2 rfl), by rw [hy]; exact he, by rw [hy]⟩
theorem last_miss {es : List DE} {x : ByteArray} {k : Nat} {to i : Int} {y : ByteArray} (h : Last es x k to) (hk : k < es.length) (hy : es.getD k D0 = ⟨y, i⟩) (he : y ≠ x) : Last es x (k + 1) to := by
  rw [deD hk] at hy
  rcases h with ⟨h1, h2⟩ | ⟨e, h1, h2, h3⟩
  · refine .inl ⟨fun e he2 => ?_, h2⟩
    rw [List.take_succ_eq_append_getElem hk] at he2
    rcases List.mem_append.1 he2 with h4 | h4
    · exact h1 e h4
    · obtain rfl : e = es[k] := by simpa using h4
      rw [hy]; exact he
  · exact .inr ⟨e, by rw [List.take_succ_eq_append_getElem hk]; exact List.mem_append_left _ h1, h2, h3⟩
theorem last_end {es : List DE} {x : ByteArray} {to : Int} (h : Last es x es.length to) (hs : SrtE es) : (fndE es x = true → to = (es.getD (lowE es x) D0).i) ∧ (fndE es x = false → to = -1) := by
  unfold Last at h
  rw [List.take_length] at h
  constructor
  · intro hf
    obtain ⟨h1, h2⟩ := (found_iff hs).1 hf
    rcases h with ⟨h3, _⟩ | ⟨e, h3, h4, h5⟩
    · exact absurd h2 (h3 _ h1)
    · rw [h5, entry_same hs h3 h1 (by rw [h4, h2])]
  · intro hf
    rcases h with ⟨_, h3⟩ | ⟨e, h3, h4, _⟩
    · exact h3
    · exact absurd h4 ((found_iff hs).2 hf e h3)

set_option maxRecDepth 100000 in
set_option maxHeartbeats 3200000 in
theorem refResolve_any (a : Option Addr) (c : Nat) (t : Tr) (v : Value) (xs : List ByteArray) (w : World) (h1 : Ok1 t) (h : Nods w w.heap.size a c t) (hx : Strs w w.heap.size v xs) :
    Calls Tryz.prog 167 #[.agg #[.slice a t.length c], v] w fun e w' => e = .returned (.tuple #[.int .i64 ((resT t xs 0 0).1 : Nat), .int .i64 (resT t xs 0 0).2.1, .int .i64 ((resT t xs 0 0).2.2 : Nat)]) ∧ Below w.heap.size w w' := by
  have H := Lib.hid h
  have H1 := Lib.hid h1
  have HX := Lib.hid hx
  obtain ⟨xa, xc, rfl, hxc, hxl, _, _⟩ := hx
  have hne := h1.ne
  have hrk : (nod t 0).k ≠ 0 := by rw [h1.root]; decide
  have HK0 := Lib.hid hrk
  clear h h1 hrk
  generalize hR : resT t xs 0 0 = R at *
  have HR := Lib.hid hR
  clear hR
  have T0 := Lib.hid (One.new w (.slice a t.length c) 24)
  have B0 := Lib.hid ((Below.refl w.heap.size w).alloc (Nat.le_refl _) (.cells #[.slice a t.length c] 24))
  go_enter Tryz.func167, Tryz.ntmps167
  go_wp2_with fail
  go_loopg [7, 8, 9, 10] xs.length (fun gg s7 s8 _ _ wr => ∃ i n : Nat, i ≤ xs.length ∧ xs.length - i ≤ gg ∧ s7 = .int .i64 n ∧ s8 = .int .i64 i ∧ n < t.length ∧ Aside ((nod t n).k ≠ 0) ∧ Aside (Below w.heap.size w wr) ∧ Aside (One wr w.heap.size (.slice a t.length c)) ∧ Aside (resT t (xs.drop i) n i = R))
  case atStart => exact ⟨0, 0, by omega, by omega, rfl, rfl, hne, HK0.out, B0.out, T0.out, (show resT t (xs.drop 0) 0 0 = R from HR.out)⟩
  case round =>
    obtain ⟨i, n, hi, hg, rfl, rfl, hn, K0, B, T, RE⟩ := hrel
    clear T0 B0 HR HK0
    obtain ⟨w2, rfl⟩ : ∃ w2 : World, w2 = wr := ⟨_, rfl⟩
    have tc := T.out.c0
    have tl := T.out.lt
    by_cases hlt : i < xs.length
    · have hltz : (i : Int) < (xs.length : Int) := by omega
      have hi0 : (0 : Int) ≤ (i : Int) := Int.natCast_nonneg _
      have hm9 : xs.length - (i + 1) < xs.length - i := Nat.sub_lt_sub_left hlt (Nat.lt_succ_self i)
      have nlz : (n : Int) < (t.length : Int) := by omega
      have nz : (0 : Int) ≤ (n : Int) := Int.natCast_nonneg _
      obtain ⟨b, o, ve, vd, va, vx, rfl, hb, hc, hs⟩ := (H.out.below B.out).one hn
      obtain ⟨ea, ec, rfl, hec, hel, hef, hex⟩ := hs.es
      have h0 := hc.c0
      have h2 := hc.c2
      change (kids t n).length ≤ ec at hec
      change (kids t n).length ≤ 35184372088832 at hel
      change w2.cell? ⟨b, o + n * 8 + 2, none⟩ = some (.slice ea (kids t n).length ec) at h2
      have HEX := Lib.hid (show 0 < (kids t n).length → ∃ b o, ea = some ⟨b, o, none⟩ ∧ b < w.heap.size ∧ ∀ j, j < (kids t n).length →
        w2.cell? ⟨b, o + j * 2, none⟩ = some (.string ((kids t n).getD j D0).n) ∧ w2.cell? ⟨b, o + j * 2 + 1, none⟩ = some (.int .i64 ((kids t n).getD j D0).i) from hex)
      have hkind := (H1.out.fine n).kind
      have SRT := Lib.hid (show SrtE (kids t n) from (H1.out.fine n).srt)
      have HFD := Lib.hid (fun x => kid_found H1.out (n := n) (x := x))
      have RF := Lib.hid (fun (hk : (nod t n).k = 2) => resT_file (t := t) hlt hk)
      have RM := Lib.hid (fun (hk : (nod t n).k ≠ 2) hf => resT_miss (t := t) hlt hk hf)
      have RH := Lib.hid (fun (hk : (nod t n).k ≠ 2) hf => resT_hit (t := t) hlt hk hf)
      obtain ⟨xb, xo, rfl, hxb, hxj⟩ := strs_at HX.out (by omega)
      have x0 := (B.out.cell (p := ⟨xb, xo + i, none⟩) hxb).trans (hxj i hlt)
      clear hc hs hef hex hxj
      generalize xs.getD i ByteArray.empty = x at *
      have hkk : (nod t n).k = 1 ∨ (nod t n).k = 2 := by
        rcases hkind with h9 | h9 | h9
        · exact absurd h9 K0.out
        · exact .inl h9
        · exact .inr h9
      clear hkind
      rcases hkk with hk | hk
      · rw [hk] at h0
        have RM2 := Lib.hid (fun hf => RM.out (by rw [hk]; decide) hf)
        have RH2 := Lib.hid (fun hf => RH.out (by rw [hk]; decide) hf)
        clear hk RM RH RF
        generalize hm : (kids t n).length = m at *
        go_wp2_with fail
        go_loopg [9, 10] m (fun gg s9 s10 wq => ∃ (k : Nat) (to : Int), k ≤ m ∧ m - k ≤ gg ∧ s9 = .int .i64 to ∧ s10 = .int .i64 k ∧ Aside (Last (kids t n) x k to) ∧ Aside (∃ q, wq = w2.drewN q))
        case atStart => exact ⟨0, -1, by omega, by omega, rfl, rfl, last_zero _ _, ⟨0, rfl⟩⟩
        case round =>
          obtain ⟨k, to, hk, hg2, rfl, rfl, LA, hw⟩ := hrel
          obtain ⟨q, rfl⟩ := hw.out
          clear hw
          by_cases hlk : k < m
          · have hlkz : (k : Int) < (m : Int) := by omega
            have hk0 : (0 : Int) ≤ (k : Int) := Int.natCast_nonneg _
            obtain ⟨be, oe, rfl, hbe, hje⟩ := HEX.out (by omega)
            have e0 := (hje k hlk).1
            have e1 := (hje k hlk).2
            clear hje
            generalize hy : (kids t n).getD k D0 = y at e0 e1
            obtain ⟨y, yi⟩ := y
            simp only at e0 e1
            have Y := Lib.hid hy
            have HM := Lib.hid hm
            clear hy
            by_cases hyx : y = x
            · have hb1 : (y.toList == x.toList) = true := by rw [beq_str]; simpa using hyx
              have LB := Lib.hid (last_hit (x := x) (by rw [HM.out]; exact hlk) Y.out hyx)
              clear hyx
              go_wp2_with fail
              go_quiet (fail)
              go_wp2_with fail
              go_roundg (m - (k + 1))
              case measure => omega
              case rel => exact ⟨k + 1, yi, by omega, by omega, rfl, by go_num, LB.out, (show Aside _ from ⟨q + nq, rfl⟩)⟩
            · have hb1 : (y.toList == x.toList) = false := by rw [beq_str]; simpa using hyx
              have LB := Lib.hid (last_miss LA.out (by rw [HM.out]; exact hlk) Y.out hyx)
              clear hyx
              go_wp2_with fail
              go_quiet (fail)
              go_wp2_with fail
              go_roundg (m - (k + 1))
              case measure => omega
              case rel => exact ⟨k + 1, to, by omega, by omega, rfl, by go_num, LB.out, (show Aside _ from ⟨q + nq, rfl⟩)⟩
          · obtain rfl : k = m := by omega
            have HE := Lib.hid (last_end (x := x) (to := to) (by rw [hm]; exact LA.out) SRT.out)
            cases hf : fndE (kids t n) x with
            | true =>
              have hto := HE.out.1 hf
              obtain ⟨hl9, hi9, hn9, hk9⟩ := HFD.out x hf
              have RE2 := Lib.hid ((RH2.out hf).symm.trans RE.out)
              generalize ((kids t n).getD (lowE (kids t n) x) D0).i = ei at *
              subst hto
              obtain ⟨n2, rfl⟩ := Int.eq_ofNat_of_zero_le (Int.le_of_lt hi9)
              simp only [Int.toNat_natCast] at hn9 hk9 RE2
              have K9 := Lib.hid hk9
              have hnn : decide ((n2 : Int) < 0) = false := by rw [decide_eq_false_iff_not]; omega
              clear hf hk9 hl9 HE
              go_wp2_with fail
              go_roundg (xs.length - (i + 1))
              case measure => exact Nat.lt_of_lt_of_le hm9 hg
              case rel => exact ⟨i + 1, n2, by omega, by omega, rfl, by go_num, hn9, K9.out, (show Aside _ from below_drewN B.out q), (show Aside _ from ⟨T.out.lt, T.out.c0, T.out.f0⟩), RE2.out⟩
            | false =>
              have hto := HE.out.2 hf
              subst hto
              have RE2 := Lib.hid ((RM2.out hf).symm.trans RE.out)
              have hRR := RE2.out.symm
              subst hRR
              clear hf HE
              go_wp2_with fail
              go_ret3
              exact ⟨rfl, below_drewN B.out q⟩
      · rw [hk] at h0
        have hRR := ((RF.out hk).symm.trans RE.out).symm
        subst hRR
        clear hk RM RH RF
        go_wp2_with fail
        go_ret3
        exact ⟨rfl, B.out⟩
    · obtain rfl : i = xs.length := by omega
      have hRR := ((resT_end (t := t) (xs := xs) (n := n)).symm.trans RE.out).symm
      subst hRR
      go_wp2_with fail
      go_ret3
      exact ⟨rfl, B.out⟩

end Go.Proofs.YtmbbmmnpkdfecaaGreatDoor

/- slices.Delete of one entry of a row of entries that the call owns. Conditions: the place lies within the row. -/

set_option linter.all false
namespace Go.Proofs.YtmbbmmnpkdfecaaGreatDoor
open Go.RowKit

theorem step_append_runI {P : Program} {ops : Array Oper} {o : Oper} {a : Act} {w : World} {K : Act → World → Prop} {Q : Exit → Act → World → Prop} {E : Prop}
    (hg : o.guard = none) (d x : Operand) (dT sT : TypeId) (hop : o.op = Op.call { callee := Callee.builtin Builtin.append, args := #[d, x], argTypes := #[dT, sT] })
    (v u : Value) (hd : a.eval d = v) (hx : a.eval x = u) {v' : Value} {w' : World} (hr : (Builtin.append_ #[dT, sT] o.type #[v, u]).run P w = .ok v' w') (hK : K (a.put o.dst v') w') :
    if Region.wanted o (yielded ops a.tmps) = true then Oper.wp P o a w K Q else E := by
  have hw : Region.wanted o (yielded ops a.tmps) = true := by simp [Region.wanted, hg]
  rw [if_pos hw]
  unfold Oper.wp
  simp [execOp, hop, resolve, invoke, builtin, hd, hx, hr, Result.andThen]
  exact hK

set_option maxHeartbeats 6400000 in
set_option maxRecDepth 100000 in
theorem delete_run (g n c i : Nat) (cur : Array Value) (F1 E F2 R : List Value) (w : World) (hg : w.heap[g]? = some (.cells cur 93 (0, 0))) (hi : i < n) (hnc : n ≤ c) (hc : c ≤ maxLen)
    (hcs : cur.toList = F1 ++ (E ++ (F2 ++ R))) (l1 : F1.length = i * 2) (lE : E.length = 2) (l2 : F2.length = (n - (i + 1)) * 2) (l3 : R.length = (c - n) * 2) (hone : ∀ v ∈ F2, v.oneCell' = true) :
    Calls Tryz.prog 165 #[.slice (some ⟨g, 0, none⟩) n c, .int .i64 i, .int .i64 ((i : Int) + 1)] w fun en w' =>
      en = .returned (.slice (some ⟨g, 0, none⟩) (n - 1) c) ∧ ∃ z, z.length = 2 ∧ w' = (w.drew.setRow g (splice cur.toList (i * 2) F2).toArray).setRow g (splice (splice cur.toList (i * 2) F2) ((n - 1) * 2) z).toArray := by
  obtain ⟨i0, hi0, hz0, hz1, hz2⟩ := info_de
  unfold maxLen at hc
  have hcl : cur.size = c * 2 := by
    have := congrArg List.length hcs
    simp only [Array.length_toList, List.length_append] at this
    omega
  obtain ⟨A, hA, hsrc⟩ : ∃ A : Addr, (if c = i + 1 then some (⟨g, 0, none⟩ : Addr) else some ⟨g, (i + 1) * 2, none⟩) = some A ∧ Hid (∀ t u, F2[t]? = some u → w.drew.cell? (A.add t) = some u) := by
    by_cases h : c = i + 1
    · refine ⟨⟨g, 0, none⟩, by simp [h], Lib.hid fun t u hu => ?_⟩
      have h0 : F2 = [] := List.eq_nil_of_length_eq_zero (by omega)
      rw [h0] at hu
      simp at hu
    · refine ⟨⟨g, (i + 1) * 2, none⟩, by simp [h], Lib.hid fun t u hu => ?_⟩
      rw [Addr.add_lit, cell_row (w := w.drew) hg, ← Array.getElem?_toList, hcs, List.getElem?_append_right (by omega), List.getElem?_append_right (by omega), List.getElem?_append_left (by have := (List.getElem?_eq_some_iff.1 hu).1; omega)]
      rwa [show (i + 1) * 2 + t - F1.length - E.length = t by omega]
  have hap : ∀ ty, (Builtin.append_ #[60, 60] ty #[.slice (some ⟨g, 0, none⟩) i c, .slice (some A) (n - (i + 1)) (c - (i + 1))]).run Tryz.prog w.drew = .ok (.slice (some ⟨g, 0, none⟩) (n - 1) c) (w.drew.setRow g (splice cur.toList (i * 2) F2).toArray) := fun ty => by
    have := run_append_room2 (P := Tryz.prog) w.drew 60 ty 93 i0 u_de hi0 hz1 g i c (n - (i + 1)) (c - (i + 1)) A cur _ hg F2 l2 hsrc.out hone (by omega) (by omega)
    rwa [show i + (n - (i + 1)) = n - 1 by omega] at this
  obtain ⟨cur1, hcur1⟩ : ∃ cur1 : Array Value, cur1 = (splice cur.toList (i * 2) F2).toArray := ⟨_, rfl⟩
  have hcl1 : cur1.size = c * 2 := by
    rw [hcur1]
    have := splice_size cur.toList F2 (i * 2) (by have := Array.length_toList (xs := cur); omega)
    simpa [hcl] using this
  obtain ⟨W1, hW1⟩ : ∃ W1, W1 = w.drew.setRow g cur1 := ⟨_, rfl⟩
  have hg1 : W1.heap[g]? = some (.cells cur1 93 (0, 0)) := by rw [hW1]; exact setRow_heap w.drew g _ _ _ _ hg
  rw [← hcur1] at hap
  rw [← hW1] at hap
  have hcr : ∀ ty, (Builtin.clear_ #[60] ty #[.slice (some ⟨g, (n - 1) * 2, none⟩) (n - (n - 1)) (c - (n - 1))]).run Tryz.prog W1 = .ok (.tuple #[]) (W1.setRow g (splice cur1.toList ((n - 1) * 2) (Builtin.zeroCells #[.string ⟨#[]⟩, .int .i64 0] (n - (n - 1))).toList).toArray) := fun ty =>
    run_clear2 W1 _ 93 ty _ _ u_de (fun w => by simp [zeroValue, typeInfo, hi0, hz0]) rfl rfl g ((n - 1) * 2) (n - (n - 1)) (c - (n - 1)) cur1 _ (by omega) hg1 (by omega)
  have hz1' : ¬ ((i : Int) = (i : Int) + 1) := by omega
  have hw1 : IntKind.i64.wrap ((i : Int) + 1) = (i : Int) + 1 := by rw [IntKind.wrap_i64]; omega
  have hb1 : (0 : Int) ≤ (i : Int) + 1 := by omega
  have hin : i ≤ n := by omega
  have hic : i ≤ c := by omega
  have htn : ((i : Int) + 1).toNat = i + 1 := by omega
  have hb3 : (i : Int) + 1 ≤ (n : Int) := by omega
  have hb5 : (i : Int) ≤ (i : Int) + 1 := by omega
  have hb6 : n - 1 ≤ n := by omega
  have hb7 : ¬ (c = n - 1) := by omega
  have mixed : Tryz.prog.follows .mixedOrders = true := by kernel_rfl
  have HC := Lib.hid hcur1; have HW := Lib.hid hW1
  clear hcur1 hW1 hcs hg hg1 l1 l2 l3 lE hsrc
  go_enter Tryz.func165, Tryz.ntmps165
  go_wp2_with fail
  go_region_law_o (refine step_append_runI rfl (.tmp 22) (.tmp 25) 60 60 rfl (.slice (some ⟨g, 0, none⟩) i c) (.slice (some A) (n - (i + 1)) (c - (i + 1))) (by simp [Act.eval, Act.put]) (by simp [Act.eval, Act.put]) (hap _) ?_)
  go_wp2_with (simp only [hcr])
  go_ret
  exact ⟨rfl, (Builtin.zeroCells #[.string ⟨#[]⟩, .int .i64 0] (n - (n - 1))).toList, by simp [Builtin.zeroCells]; omega, by rw [HW.out, HC.out]⟩

/-- What Delete leaves. -/
def DelPost (base : Nat) (v : Value) (es : List DE) (i : Nat) (w : World) (en : Ending) (w' : World) : Prop :=
  ∃ v', en = .returned v' ∧ w'.ownsRow base 93 2 v' (es.length - 1) (flatD (es.take i ++ es.drop (i + 1))) ∧ w.grownBy w' v.ownBlock ∧ v'.ownBlock = v.ownBlock

theorem delete_own (base : Nat) (v : Value) (es : List DE) (i : Nat) (w : World) (h : w.ownsRow base 93 2 v es.length (flatD es)) (hi : i < es.length) :
    Calls Tryz.prog 165 #[v, .int .i64 i, .int .i64 ((i : Int) + 1)] w (DelPost base v es i w) := by
  rcases h.2 with ⟨hnv, hn0⟩ | ⟨g, c, cur, hnv, hbg, hg, hnc, hcm, hcs, ht⟩
  · omega
  · subst hnv
    have hF : flatD es = flatD (es.take i) ++ (flatD (es.drop i |>.take 1) ++ flatD (es.drop (i + 1))) := by
      rw [← flatD_append, ← flatD_append]
      congr 1
      rw [show es.drop (i + 1) = (es.drop i).drop 1 by rw [List.drop_drop], List.take_append_drop, List.take_append_drop]
    have l1 : (flatD (es.take i)).length = i * 2 := by rw [flatD_len, List.length_take, Nat.min_eq_left (by omega)]
    have lE : (flatD (es.drop i |>.take 1)).length = 2 := by rw [flatD_len, List.length_take, List.length_drop, Nat.min_eq_left (by omega)]
    have l2 : (flatD (es.drop (i + 1))).length = (es.length - (i + 1)) * 2 := by rw [flatD_len, List.length_drop]
    have hcl : cur.toList = flatD (es.take i) ++ (flatD (es.drop i |>.take 1) ++ (flatD (es.drop (i + 1)) ++ cur.toList.drop (es.length * 2))) := by
      have : cur.toList = flatD es ++ cur.toList.drop (es.length * 2) := by rw [← ht, List.take_append_drop]
      rw [hF] at this
      simpa [List.append_assoc] using this
    have lR : (cur.toList.drop (es.length * 2)).length = (c - es.length) * 2 := by rw [List.length_drop, Array.length_toList, hcs]; omega
    refine (delete_run g es.length c i cur _ _ _ _ w hg hi hnc hcm hcl l1 lE l2 lR (flatD_one _)).mono ?_
    rintro en w' ⟨rfl, z, hz, rfl⟩
    have hs1 := splice_size cur.toList (flatD (es.drop (i + 1))) (i * 2) (by rw [Array.length_toList (xs := cur)]; omega)
    have hs2 := splice_size (splice cur.toList (i * 2) (flatD (es.drop (i + 1)))) z ((es.length - 1) * 2) (by rw [hs1, Array.length_toList (xs := cur)]; omega)
    have hL : ∃ R', splice (splice cur.toList (i * 2) (flatD (es.drop (i + 1)))) ((es.length - 1) * 2) z = flatD (es.take i ++ es.drop (i + 1)) ++ R' := by
      refine ⟨z ++ (splice cur.toList (i * 2) (flatD (es.drop (i + 1)))).drop ((es.length - 1) * 2 + z.length), ?_⟩
      have h2 : (splice cur.toList (i * 2) (flatD (es.drop (i + 1)))).take ((es.length - 1) * 2) = flatD (es.take i) ++ flatD (es.drop (i + 1)) := by
        have hp : cur.toList.take (i * 2) = flatD (es.take i) := by rw [hcl]; exact take_app _ _ _ l1
        unfold splice
        rw [hp, ← List.append_assoc]
        exact take_app _ _ _ (by rw [List.length_append, l1, l2]; omega)
      rw [flatD_append, ← h2]
      unfold splice
      rfl
    obtain ⟨R', hR'⟩ := hL
    refine ⟨_, rfl, own_new (rest := R') hbg (setRow_heap _ g _ _ _ _ (setRow_heap w.drew g _ _ _ _ hg)) (by omega) hcm ?_ ?_ ?_, ?_, rfl⟩
    · simp only [List.size_toArray, hs2, hs1, Array.length_toList]; exact hcs
    · rw [flatD_len, List.length_append, List.length_take, List.length_drop, Nat.min_eq_left (by omega)]; omega
    · simp only [hR']
    · exact grown_setRow (grown_setRow (grown_drew w _) g _ (Or.inl rfl)) g _ (Or.inl rfl)

end Go.Proofs.YtmbbmmnpkdfecaaGreatDoor

/- usage and quotaCheck. Conditions: all inodes that are not free are reached; the tree's cells lie in memory as they read. -/

set_option linter.all false
namespace Go.Proofs.YtmbbmmnpkdfecaaGreatDoor
open Go.RowKit

theorem One.set {w : World} {n : Nat} {v : Value} (h : One w n v) (u : Value) : One (w.setCell ⟨n, 0, none⟩ u) n u :=
  ⟨by simpa using h.lt, World.cell?_setCell_same _ _ _ h.c0, by simpa using h.f0⟩
/-- What is counted so far. -/
structure UInv (W : World) (t : Tr) (a : Option Addr) (c pt ptot R pc Bt : Nat) (L : List Vis) : Prop where
  row : Row W R t.length (fun j => .bool (hasL L j))
  cv : One W pc (.slice (some ⟨R, 0, none⟩) t.length t.length)
  tot : One W ptot (.int .i64 (usg t L : Nat))
  tb : One W pt (.slice a t.length c)
  nd : Nods W Bt a c t
theorem UInv.below {W W' : World} {t : Tr} {a : Option Addr} {c pt ptot R pc Bt B : Nat} {L : List Vis} (h : UInv W t a c pt ptot R pc Bt L) (hb : Below B W W') (h1 : R < B) (h2 : ptot < B) (h3 : pc < B) (h4 : pt < B) (h5 : Bt ≤ B) : UInv W' t a c pt ptot R pc Bt L :=
  ⟨h.row.below hb h1, h.cv.below hb h3, h.tot.below hb h2, h.tb.below hb h4, h.nd.below (hb.mono h5)⟩

set_option maxRecDepth 100000 in
set_option maxHeartbeats 1600000 in
theorem usage1_any (t : Tr) (h1 : Ok1 t) (a : Option Addr) (c pt ptot R pc Bt : Nat) (d0 : Bt ≤ pt) (d1 : pt < ptot) (d2 : ptot < R) (d3 : R < pc) (W : World) (L : List Vis) (xs : List ByteArray) (n : Nat) (v : Value) (hp : pc < W.heap.size) (h : UInv W t a c pt ptot R pc Bt L) (hn : n < t.length) :
    Calls Tryz.prog 153 #[v, .int .i64 (n : Int), .pointer (some ⟨pc, 0, none⟩), .pointer (some ⟨ptot, 0, none⟩), .pointer (some ⟨pt, 0, none⟩)] W fun e W' => e = .returned (.tuple #[]) ∧ UInv W' t a c pt ptot R pc Bt (L ++ [(xs, n)]) ∧ Kept (fun b => b = R ∨ b = ptot) none W W' := by
  have nlz : (n : Int) < (t.length : Int) := by omega
  have nz : (0 : Int) ≤ (n : Int) := Int.natCast_nonneg _
  obtain ⟨b, o, ve, vd, va, vx, rfl, hb, hc, hs⟩ := h.nd.one hn
  obtain ⟨da, dc, rfl, _⟩ := hs.dl
  have h3 := hc.c3
  have hdl := (h1.fine n).dl
  have hul := usg_le h1 L
  have r0 := h.row.c n hn
  have rz := h.row.fz n
  have rl := h.row.lt
  have c0 := h.cv.c0
  have t0 := h.tot.c0
  have tz := h.tot.f0
  have b0 := h.tb.c0
  have hl5 : ptot < W.heap.size := by omega
  have hl6 : pt < W.heap.size := by omega
  have HI := Lib.hid h
  have HU := Lib.hid (usg_snoc (L := L) (p := (xs, n)) hn)
  clear hc hs h h1
  cases hx : hasL L n with
  | true =>
    rw [hx] at r0
    have HL := Lib.hid (show UInv W t (some ⟨b, o, none⟩) c pt ptot R pc Bt (L ++ [(xs, n)]) from
      ⟨HI.out.row.ext (fun j _ => by
        rw [hasL_snoc]
        by_cases e : n = j
        · subst e; simp [hx]
        · simp [e]), HI.out.cv, by rw [HU.out, if_pos hx]; exact HI.out.tot, HI.out.tb, HI.out.nd⟩)
    clear hx HU
    go_enter Tryz.func153, Tryz.ntmps153
    go_wp2
    go_end0
    exact ⟨rfl, HL.out, Kept.refl _ _ _⟩
  | false =>
    rw [hx] at r0
    have HR := Lib.hid (fun (f : Nat → Value) (hf : ∀ j, j < t.length → f j = (if j = n then Value.bool true else Value.bool (hasL L j))) j (hj : j < t.length) => (show f j = .bool (hasL (L ++ [(xs, n)]) j) from by
      rw [hf j hj, hasL_snoc]
      by_cases e : j = n
      · subst e; simp
      · rw [if_neg e, decide_eq_false (fun h => e h.symm), Bool.or_false]))
    have HU2 := Lib.hid (show usg t (L ++ [(xs, n)]) = usg t L + (nod t n).dl from by rw [HU.out, if_neg (by rw [hx]; simp)])
    clear hx HU
    have RR := Lib.hid (HI.out.row.put hn (.bool true))
    have HV := HI.out.nd
    generalize hu : usg t L = u at *
    generalize hd : (nod t n).dl = d at *
    have b1 : (W.setCell ⟨R, n, none⟩ (.bool true)).cell? ⟨ptot, 0, none⟩ = some (.int .i64 (u : Int)) := (World.cell?_setCell_other _ _ _ _ (by first | omega | (simp; done) | (simp; omega))).trans t0
    have b2 : (W.setCell ⟨R, n, none⟩ (.bool true)).cell? ⟨pt, 0, none⟩ = some (.slice (some ⟨b, o, none⟩) t.length c) := (World.cell?_setCell_other _ _ _ _ (by first | omega | (simp; done) | (simp; omega))).trans b0
    have b3 : (W.setCell ⟨R, n, none⟩ (.bool true)).cell? ⟨b, o + n * 8 + 3, none⟩ = some (.slice da d dc) := (World.cell?_setCell_other _ _ _ _ (by first | omega | (simp; done) | (simp; omega))).trans h3
    have FF := Lib.hid (show UInv ((W.setCell ⟨R, n, none⟩ (.bool true)).drew.setCell ⟨ptot, 0, none⟩ (.int .i64 ((u : Int) + (d : Int)))) t (some ⟨b, o, none⟩) c pt ptot R pc Bt (L ++ [(xs, n)]) from
      ⟨((show Row (W.setCell ⟨R, n, none⟩ (.bool true)).drew R t.length _ from ⟨RR.out.lt, RR.out.c, RR.out.fz⟩).far (by first | omega | (simp; done) | (simp; omega)) _).ext (HR.out _ (fun _ _ => rfl)), ((HI.out.cv.far (p := ⟨R, n, none⟩) (by first | omega | (simp; done) | (simp; omega)) (.bool true)).drew).far (by first | omega | (simp; done) | (simp; omega)) _, by
        have := ((HI.out.tot.far (p := ⟨R, n, none⟩) (by first | omega | (simp; done) | (simp; omega)) (.bool true)).drew).set (.int .i64 ((u : Int) + (d : Int)))
        rw [HU2.out]
        have e : ((u + d : Nat) : Int) = (u : Int) + (d : Int) := by omega
        rw [e]; exact this, ((HI.out.tb.far (p := ⟨R, n, none⟩) (by first | omega | (simp; done) | (simp; omega)) (.bool true)).drew).far (by first | omega | (simp; done) | (simp; omega)) _, HV.keep fun b' o' hb' => (World.cell?_setCell_other _ _ _ _ (by first | omega | (simp; done) | (simp; omega))).trans (World.cell?_setCell_other W _ _ _ (by first | omega | (simp; done) | (simp; omega)))⟩)
    have KK := Lib.hid (show Kept (fun b => b = R ∨ b = ptot) none W ((W.setCell ⟨R, n, none⟩ (.bool true)).drew.setCell ⟨ptot, 0, none⟩ (.int .i64 ((u : Int) + (d : Int)))) from
      (((Kept.refl _ _ _).set (.inl rfl) _).trans (Kept.of_below (Below.refl _ _).drew)).set (.inr rfl) _)
    have dz : (0 : Int) ≤ (d : Int) := Int.natCast_nonneg _
    have uz : (0 : Int) ≤ (u : Int) := Int.natCast_nonneg _
    go_enter Tryz.func153, Tryz.ntmps153
    have hwr : IntKind.i64.wrap ((u : Int) + (d : Int)) = (u : Int) + (d : Int) := IntWalk.i64_in _ (by omega)
    go_wp2
    go_region
    all_goals
      go_end0
      exact ⟨rfl, FF.out, KK.out⟩

end Go.Proofs.YtmbbmmnpkdfecaaGreatDoor

/- usage at any inode from which all walks end, and quotaCheck. Conditions: as each theorem states; the tree's cells lie in memory as they read. -/

set_option linter.all false
namespace Go.Proofs.YtmbbmmnpkdfecaaGreatDoor
open Go.RowKit

theorem eg_usage1 : ∀ args w, (callFunc 153 args).run Tryz.prog w = .ok (.enter 153 args) w := enters_of Tryz.func153 (by kernel_rfl) rfl
set_option maxRecDepth 100000 in
set_option maxHeartbeats 1600000 in
theorem usage_any (a : Option Addr) (c : Nat) (t : Tr) (n : Nat) (w : World) (h1 : Ok1 t) (fr : From t n) (h : Nods w w.heap.size a c t) :
    Calls Tryz.prog 114 #[.agg #[.slice a t.length c], .int .i64 (n : Int)] w fun e w' => e = .returned (.int .i64 (usg t (visits t n) : Nat)) ∧ Below w.heap.size w w' := by
  have H := Lib.hid h
  have H1 := Lib.hid h1
  have FR := Lib.hid fr
  have hmk := make_bools t.length h1.le
  clear h h1 fr
  have BB := Lib.hid (show Below w.heap.size w ((((w.alloc (.cells #[.slice a t.length c] 24)).alloc (.cells #[.int .i64 0] 3)).alloc (.cells (madeCells #[.bool false] t.length) 4)).alloc (.cells #[.slice (some ⟨w.heap.size + 1 + 1, 0, none⟩) t.length t.length] 139)) from
    ((((Below.refl _ _).alloc (Nat.le_refl _) _).alloc (by first | omega | (simp; done) | (simp; omega)) _).alloc (by first | omega | (simp; done) | (simp; omega)) _).alloc (by first | omega | (simp; done) | (simp; omega)) _)
  have MM := Lib.hid (show UInv ((((w.alloc (.cells #[.slice a t.length c] 24)).alloc (.cells #[.int .i64 0] 3)).alloc (.cells (madeCells #[.bool false] t.length) 4)).alloc (.cells #[.slice (some ⟨w.heap.size + 1 + 1, 0, none⟩) t.length t.length] 139)) t a c w.heap.size (w.heap.size + 1) (w.heap.size + 1 + 1) (w.heap.size + 1 + 1 + 1) w.heap.size [] from
    ⟨(((row_new ((w.alloc _).alloc _) t.length (.bool false) _).alloc _).at_ (by simp)).ext (fun _ _ => rfl), (One.new (((w.alloc _).alloc _).alloc _) _ _).at_ (by simp), by rw [usg_nil]; exact (((One.new (w.alloc _) (.int .i64 0) _).alloc _).alloc _).at_ (by simp), (((One.new w _ _).alloc _).alloc _).alloc _, H.out.below BB.out⟩)
  go_enter Tryz.func114, Tryz.ntmps114
  go_wp2_with fail
  have VV : Visitor t n 153 #[.pointer (some ⟨w.heap.size + 1 + 1 + 1, 0, none⟩), .pointer (some ⟨w.heap.size + 1, 0, none⟩), .pointer (some ⟨w.heap.size, 0, none⟩)] (fun b => b = w.heap.size + 1 + 1 ∨ b = w.heap.size + 1) (w.heap.size + 4) (fun W L => UInv W t a c w.heap.size (w.heap.size + 1) (w.heap.size + 1 + 1) (w.heap.size + 1 + 1 + 1) w.heap.size L) (fun L p => L ++ [p]) := by
    refine ⟨eg_usage1, fun b hb => by omega, fun W W' s hI hb => hI.below hb (by omega) (by omega) (by omega) (by omega) (by omega), fun W s xs m v hH hI hr hx hv => ?_⟩
    have hnr := H1.out.rch hr FR.out.lt FR.out.used
    exact usage1_any t H1.out a c w.heap.size _ _ _ w.heap.size (by omega) (by omega) (by omega) (by omega) W s xs m v (by omega) hI hnr.1
  have HW := walk_any VV H1.out FR.out (Bt := w.heap.size) (by omega) (fun b hb => by omega) a c _ [] (H.out.below BB.out) (by first | omega | (simp; done) | (simp; omega)) MM.out
  clear VV
  refine HW.mono ?_
  rintro e W2 ⟨rfl, I2, K2⟩
  rw [foldl_snoc, List.nil_append] at I2
  have t0 := I2.tot.c0
  have B2 := Lib.hid (BB.out.trans (K2.below (by first | omega | (simp; done) | (simp; omega)) (fun k hk => by omega) (by simp)))
  clear I2 K2 HW
  go_wp2
  go_ret
  exact ⟨rfl, B2.out⟩

set_option maxRecDepth 100000 in
set_option maxHeartbeats 800000 in
theorem quotaCheck1_any (a : Option Addr) (c : Nat) (t : Tr) (n pt : Nat) (w : World) (hd : Head t) (hp3 : Pass t 3) (h : Nods w w.heap.size a c t) (hp : One w pt (.slice a t.length c)) (hn : n < t.length) :
    Calls Tryz.prog 113 #[.int .i64 (n : Int), .pointer (some ⟨pt, 0, none⟩)] w fun e w' => e = .returned (.int .i64 (codeQ t n)) ∧ Below w.heap.size w w' := by
  have o1 := Pass.ok1 hd (hp3.mono (by omega))
  have nlz : (n : Int) < (t.length : Int) := by omega
  have nz : (0 : Int) ≤ (n : Int) := Int.natCast_nonneg _
  have HF := Lib.hid (show codeQ t n = if (nod t n).q ≠ 0 ∧ (nod t n).q < (usg t (visits t n) : Int) then 14 else 0 from rfl)
  have HU := Lib.hid (fun (hk : (nod t n).k ≠ 0) => usage_any a c t n w o1 (Pass.from_ hd hp3 hn hk).1 h)
  have HK := Lib.hid (show (nod t n).q ≠ 0 → (nod t n).k ≠ 0 from fun hq hk => hq ((o1.fine n).dir (by rw [hk]; decide)).2)
  obtain ⟨b, o, ve, vd, va, vx, rfl, hb, hc, hs⟩ := h.one hn
  have h6 := hc.c6
  have b0 := hp.c0
  have bl := hp.lt
  clear hc hs h hp o1 hp3 hd
  generalize codeQ t n = r at *
  generalize usg t (visits t n) = u at *
  generalize (nod t n).q = q at *
  by_cases hq : q = 0
  · subst hq
    rw [if_neg (by simp)] at HF
    go_enter Tryz.func113, Tryz.ntmps113
    go_wp2
    go_ret
    exact ⟨ret_int HF.out.symm, Below.refl _ _⟩
  · have hq1 : (q != 0) = true := by simpa using hq
    have HU2 := Lib.hid (HU.out (HK.out hq))
    clear HU HK
    by_cases hg : q < (u : Int)
    · rw [if_pos ⟨hq, hg⟩] at HF
      clear hq
      go_enter Tryz.func113, Tryz.ntmps113
      go_wp2_with fail
      refine HU2.out.mono ?_
      rintro e w2 ⟨rfl, b2⟩
      have B2 := Lib.hid b2
      clear b2
      go_wp2
      go_ret
      exact ⟨ret_int HF.out.symm, B2.out⟩
    · rw [if_neg (fun h => hg h.2)] at HF
      have hg2 : decide (q < (u : Int)) = false := by simpa using hg
      clear hq
      go_enter Tryz.func113, Tryz.ntmps113
      go_wp2_with fail
      refine HU2.out.mono ?_
      rintro e w2 ⟨rfl, b2⟩
      have B2 := Lib.hid b2
      clear b2
      go_wp2
      go_ret
      exact ⟨ret_int HF.out.symm, B2.out⟩

theorem eg_quota1 : ∀ args w, (callFunc 113 args).run Tryz.prog w = .ok (.enter 113 args) w := enters_of Tryz.func113 (by kernel_rfl) rfl
set_option maxRecDepth 100000 in
set_option maxHeartbeats 400000 in
theorem quotaCheck_any (a : Option Addr) (c : Nat) (t : Tr) (w : World) (hd : Head t) (hp3 : Pass t 3) (h : Nods w w.heap.size a c t) :
    Calls Tryz.prog 59 #[.agg #[.slice a t.length c]] w (CheckPost t 3 w) := by
  have H := Lib.hid h
  have HP := Lib.hid hp3
  have HD := Lib.hid hd
  clear h hp3 hd
  go_enter Tryz.func59, Tryz.ntmps59
  go_wp2
  go_ret
  refine ⟨_, _, rfl, (Below.refl _ _).alloc (Nat.le_refl _) _, eg_quota1, fun W hW n hn => ?_⟩
  have hb : Below w.heap.size w W := ((Below.refl _ _).alloc (Nat.le_refl _) _).trans (hW.mono (by simp))
  exact quotaCheck1_any a c t n w.heap.size W HD.out HP.out (H.out.up hb) ((One.new w _ _).below hW (by simp)) hn

/-! ## The four checks by number -/
def fnK (k : Nat) : FuncId := match k with
  | 0 => 56
  | 1 => 57
  | 2 => 58
  | _ => 59
theorem check_any (k : Nat) (a : Option Addr) (c : Nat) (t : Tr) (w : World) (hd : Head t) (hp : Pass t k) (hk : k < 4) (h : Nods w w.heap.size a c t) : Calls Tryz.prog (fnK k) #[.agg #[.slice a t.length c]] w (CheckPost t k w) := by
  match k, hk with
  | 0, _ => exact fieldCheck_any a c t w h
  | 1, _ => exact referenceCheck_any a c t w (Pass.ok1 hd hp) h
  | 2, _ => exact pathCheck_any a c t w (Pass.ok2 hd hp) h
  | 3, _ => exact quotaCheck_any a c t w hd hp h
theorem eg_fnK (k : Nat) (hk : k < 4) : ∀ args w, (callFunc (fnK k) args).run Tryz.prog w = .ok (.enter (fnK k) args) w := by
  match k, hk with
  | 0, _ => exact enters_of Tryz.func56 (by kernel_rfl) rfl
  | 1, _ => exact enters_of Tryz.func57 (by kernel_rfl) rfl
  | 2, _ => exact enters_of Tryz.func58 (by kernel_rfl) rfl
  | 3, _ => exact enters_of Tryz.func59 (by kernel_rfl) rfl

end Go.Proofs.YtmbbmmnpkdfecaaGreatDoor
