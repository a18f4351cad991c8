/- quota.Usage at every tree: the fault of the tree, or the usage of each inode. Conditions: the tree's cells lie in memory as they read. -/
import Derived.Test.YtndhhofidkaomaaQtReach
import Derived.Deep.RegionHeld3

set_option linter.all false
namespace Go.Proofs.Ytndhhofidkaomaa
open Go.RowKit

theorem free_rch {t : Tr} (h1 : Ok1 t) {n : Nat} (hk : (nod t n).k = 0) {xs : List ByteArray} {m : Nat} (hr : Rch t n xs m) : xs = [] ∧ m = n := by
  induction hr with
  | nil => exact ⟨rfl, rfl⟩
  | snoc hx he ih =>
    obtain ⟨_, rfl⟩ := ih
    have := (h1.kid he).2.2.2.2
    omega
theorem reach_ok {t : Tr} (hd : Head t) (p3 : Pass t 3) {n : Nat} (hn : n < t.length) : Fin t n ∧ ∀ xs m, Rch t n xs m → m < t.length := by
  have h1 := Pass.ok1 hd (p3.mono (by omega))
  by_cases hk : (nod t n).k = 0
  · exact ⟨fun xs m hr => by rw [(free_rch h1 hk hr).1]; simp, fun xs m hr => by rw [(free_rch h1 hk hr).2]; exact hn⟩
  · have fr := (Pass.from_ hd p3 hn hk).1
    exact ⟨fr.fin, fun xs m hr => (h1.rch hr fr.lt fr.used).1⟩
/-- The usage of an inode. -/
def usgN (t : Tr) (n : Nat) : Nat := usg t (visits t n)

/-- A row of which one cell is not known. -/
def RowBut (y : World) (R n k : Nat) (g : Nat → Value) : Prop := ∃ v, Row y R n (fun j => if j = k then v else g j)
theorem RowBut.below {y z : World} {R n k B : Nat} {g : Nat → Value} (h : RowBut y R n k g) (hb : Below B y z) (hR : R < B) : RowBut z R n k g := by
  obtain ⟨v, hr⟩ := h; exact ⟨v, hr.below hb hR⟩
theorem RowBut.lt {y : World} {R n k : Nat} {g : Nat → Value} (h : RowBut y R n k g) : R < y.heap.size := by obtain ⟨v, hr⟩ := h; exact hr.lt
theorem RowBut.put {y : World} {R n k : Nat} {g : Nat → Value} (h : RowBut y R n k g) (hk : k < n) (u : Value) : Row (y.setCell ⟨R, k, none⟩ u) R n (fun j => if j = k then u else g j) := by
  obtain ⟨v, hr⟩ := h
  refine (hr.put hk u).ext fun j _ => ?_
  by_cases e : j = k
  · rw [if_pos e, if_pos e]
  · rw [if_neg e, if_neg e, if_neg e]
theorem Row.but {y : World} {R n : Nat} {g : Nat → Value} (h : Row y R n g) (k : Nat) : RowBut y R n k g :=
  ⟨g k, h.ext fun j _ => by by_cases e : j = k; rw [if_pos e, e]; rw [if_neg e]⟩

/-- The values of the row when the first k are filled in. -/
def upU (t : Tr) (k j : Nat) : Value := .int .i64 (if j < k then (usgN t j : Nat) else (0 : Nat) : Nat)
theorem upU_succ (t : Tr) (k j : Nat) : (if j = k then Value.int .i64 (usgN t k : Nat) else upU t k j) = upU t (k + 1) j := by
  unfold upU
  by_cases e : j = k
  · subst e; rw [if_pos rfl, if_pos (by omega)]
  · rw [if_neg e]
    by_cases h : j < k
    · rw [if_pos h, if_pos (by omega)]
    · rw [if_neg h, if_neg (by omega)]

/-- What holds while a cell of the row is worked out. -/
structure USt (w y : World) (t : Tr) (a : Option Addr) (c R i : Nat) : Prop where
  b : Below w.heap.size w y
  row : RowBut y R t.length i (upU t i)
  fb : FBox y (w.heap.size + 1) 0 0
  tb : One y w.heap.size (.slice a t.length c)
theorem USt.step {w y z : World} {t : Tr} {a : Option Addr} {c R i : Nat} (h : USt w y t a c R i) (hb : Below y.heap.size y z) : USt w z t a c R i :=
  ⟨h.b.trans (hb.mono h.b.size), h.row.below hb h.row.lt, h.fb.below hb h.fb.lt, h.tb.below hb h.tb.lt⟩
theorem USt.store {w y : World} {t : Tr} {a : Option Addr} {c R i : Nat} (h : USt w y t a c R i) (hi : i < t.length) (hR : w.heap.size + 1 < R) (u : Value) : USt w (y.setCell ⟨R, i, none⟩ u) t a c R i :=
  ⟨h.b.setCell (by simp; omega) _, ⟨u, h.row.put hi u⟩, h.fb.far (by simp; omega) _, h.tb.far (by simp; omega) _⟩

/-- What quota.Usage returns: the fault, or a new row of usages. -/
def UsePost (t : Tr) (w : World) (e : Ending) (w' : World) : Prop :=
  ((valT t).1 ≠ 0 ∧ e = .returned (.tuple #[.slice none 0 0, faultV (valT t).1 (valT t).2]) ∧ Below w.heap.size w w') ∨
    ((valT t).1 = 0 ∧ ∃ R, w.heap.size ≤ R ∧ e = .returned (.tuple #[.slice (some ⟨R, 0, none⟩) t.length t.length, faultV 0 0]) ∧ Row w' R t.length (fun j => .int .i64 (usgN t j : Nat)) ∧ Below w.heap.size w w')

set_option maxRecDepth 100000 in
set_option maxHeartbeats 3200000 in
theorem use_any (a : Option Addr) (c : Nat) (t : Tr) (w : World) (h : Nods w w.heap.size a c t) :
    Calls Try.prog 8 #[.agg #[.slice a t.length c]] w (UsePost t w) := by
  have C1 := Lib.hid (fun W (hb : Below w.heap.size w W) => validT_any a c t W (h.up hb))
  have T0 := Lib.hid (show One ((w.alloc (.cells #[.slice a t.length c] 24)).alloc (.cells #[.int .i64 0, .int .i64 0] 27)) w.heap.size (.slice a t.length c) from (One.new w _ _).alloc _)
  have F0 := Lib.hid (show FBox ((w.alloc (.cells #[.slice a t.length c] 24)).alloc (.cells #[.int .i64 0, .int .i64 0] 27)) (w.heap.size + 1) 0 0 from (FBox.new (w.alloc _) 0 0 _).at_ (by simp))
  have B0 := Lib.hid (show Below w.heap.size w ((w.alloc (.cells #[.slice a t.length c] 24)).alloc (.cells #[.int .i64 0, .int .i64 0] 27)) from ((Below.refl _ _).alloc (Nat.le_refl _) _).alloc (by first | omega | (simp; done) | (simp; omega)) _)
  unfold UsePost
  by_cases hq : (valT t).1 = 0
  · obtain ⟨hd, p4⟩ := valT_ok hq
    have hz := valT_zero hq
    have H1 := Lib.hid (Pass.ok1 hd (p4.mono (by omega)))
    have HQ := Lib.hid hq
    have H := Lib.hid h
    have HRC := Lib.hid (fun n (hn : n < t.length) W (hb : Below w.heap.size w W) => reached_any a c t n W H1.out (reach_ok hd (p4.mono (by omega)) hn).1 (reach_ok hd (p4.mono (by omega)) hn).2 (h.up hb))
    have HSZ := Lib.hid (fun n R W (hb : Below w.heap.size w W) (hr : Row W R t.length (fun j => .bool (hasL (visits t n) j))) => (show Calls Try.prog 20 #[.agg #[.slice a t.length c], .slice (some ⟨R, 0, none⟩) t.length t.length] W fun e w' => e = .returned (.int .i64 (usgN t n : Nat)) ∧ Below W.heap.size W w' from sizeOf_any a c t (hasL (visits t n)) R t.length W H1.out (h.up hb) hr))
    unfold ReachPost at HRC
    have hmk := make_ints t.length H1.out.le
    have h40 := H1.out.le
    rw [hz] at C1
    clear hd p4 hq hz h
    unfold faultV at C1
    go_enter Try.func8, Try.ntmps8
    go_wp2_with fail
    refine (C1.out _ B0.out).mono ?_
    rintro e W1 ⟨rfl, b1⟩
    have T1 := Lib.hid ((T0.out.below b1 T0.out.lt).alloc (.cells #[.int .i64 0, .int .i64 0] 27))
    have F1 := Lib.hid (F0.out.below b1 F0.out.lt)
    have B1 := Lib.hid (B0.out.trans (b1.mono B0.out.size))
    have tc := (T0.out.below b1 T0.out.lt).c0
    have tl := (T0.out.below b1 T0.out.lt).lt
    clear b1
    have TR := Lib.hid (T1.out.alloc (.cells (madeCells #[.int .i64 0] t.length) 3))
    have BR := Lib.hid (show Below w.heap.size w ((W1.alloc (.cells #[.int .i64 0, .int .i64 0] 27)).alloc (.cells (madeCells #[.int .i64 0] t.length) 3)) from (B1.out.alloc B1.out.size _).alloc (by have := B1.out.size; simp; omega) _)
    have RR := Lib.hid (show Row ((W1.alloc (.cells #[.int .i64 0, .int .i64 0] 27)).alloc (.cells (madeCells #[.int .i64 0] t.length) 3)) (W1.heap.size + 1) t.length (upU t 0) from
      ((row_new (W1.alloc _) t.length (.int .i64 0) _).at_ (by simp)).ext (fun j _ => rfl))
    have FR := Lib.hid ((F1.out.alloc (.cells #[.int .i64 0, .int .i64 0] 27)).alloc (.cells (madeCells #[.int .i64 0] t.length) 3))
    have hRw : w.heap.size + 1 < W1.heap.size + 1 := by have := F1.out.lt; omega
    have tc2 := T1.out.c0
    have tl2 := T1.out.lt
    go_wp2_with fail
    generalize hR : W1.heap.size + 1 = R at *
    generalize hW2 : (W1.alloc (.cells #[.int .i64 0, .int .i64 0] 27)).alloc (.cells (madeCells #[.int .i64 0] t.length) 3) = W2 at *
    clear T1 F1 B1 tc tl tc2 tl2 C1 T0 F0 B0 hW2
    go_loopg [6, 19] t.length (fun gg _ s19 wr => ∃ i : Nat, i ≤ t.length ∧ t.length - i ≤ gg ∧ s19 = .int .i64 i ∧ Aside (Below w.heap.size w wr) ∧ Aside (One wr w.heap.size (.slice a t.length c)) ∧ Aside (Row wr R t.length (upU t i)) ∧ Aside (FBox wr (w.heap.size + 1) 0 0))
    case atStart => exact ⟨0, by omega, by omega, rfl, BR.out, TR.out, RR.out, FR.out⟩
    case round =>
      obtain ⟨i, hi, hg, rfl, B3, T3, R3, F3⟩ := hrel
      clear BR TR RR FR
      by_cases hlt : i < t.length
      · have hltz : (i : Int) < (t.length : Int) := by omega
        have hi0 : (0 : Int) ≤ (i : Int) := Int.natCast_nonneg _
        have hm9 : t.length - (i + 1) < t.length - i := Nat.sub_lt_sub_left hlt (Nat.lt_succ_self i)
        have HC := Lib.hid (HRC.out i hlt)
        have HZ := Lib.hid (HSZ.out i)
        have t0 := T3.out.c0
        have tl := T3.out.lt
        have rl := R3.out.lt
        have K := Lib.hid (fun y (hy : Below wr.heap.size wr y) => (show USt w y t a c R i ∧ y.cell? ⟨w.heap.size, 0, none⟩ = some (.slice a t.length c) from
          ⟨⟨B3.out.trans (hy.mono B3.out.size), (R3.out.but i).below hy rl, F3.out.below hy F3.out.lt, T3.out.below hy tl⟩, (hy.cell (p := ⟨w.heap.size, 0, none⟩) tl).trans t0⟩))
        go_wp2_with fail
        go_region_held3 (fun y => USt w y t a c R i ∧ y.cell? ⟨w.heap.size, 0, none⟩ = some (.slice a t.length c))
          ((first | exact K.out _ (Below.refl _ _).drew | exact K.out _ (Below.refl _ _) | exact ⟨hR, hR.tb.c0⟩ | exact ⟨hR.store hlt (by omega) _, (hR.store hlt (by omega) _).tb.c0⟩ | (trace_state; fail)))
          ((first
            | (go_at_call 21; have hs0 := And.left ‹USt w _ t a c R i ∧ _›; refine (HC.out _ hs0.b).mono ?_; rintro e y ⟨R2, hR2, rfl, hrow, hb9⟩; have hR := hs0.step hb9)
            | (go_at_call 20; have hs1 := And.left ‹USt w _ t a c R i ∧ _›; refine (HZ.out _ _ hs1.b hrow).mono ?_; rintro e z ⟨rfl, hb8⟩; have hR := hs1.step hb8; obtain ⟨v9, hr9⟩ := hR.row; have rc := hr9.c i hlt; have rz := hr9.fz i; have rl9 := hr9.lt)
            | (trace_state; fail)))
        all_goals
          have hB := Lib.hid (hR.b.setCell (p := ⟨R, i, none⟩) (by simp; omega) (.int .i64 (usgN t i : Nat)))
          have hT := Lib.hid (hR.tb.far (p := ⟨R, i, none⟩) (by simp; omega) (.int .i64 (usgN t i : Nat)))
          have hF := Lib.hid (hR.fb.far (p := ⟨R, i, none⟩) (by simp; omega) (.int .i64 (usgN t i : Nat)))
          have hW := Lib.hid ((hR.row.put hlt (.int .i64 (usgN t i : Nat))).ext fun j _ => upU_succ t i j)
          go_wp2
          go_roundg (t.length - (i + 1))
          case measure => exact Nat.lt_of_lt_of_le hm9 hg
          case rel => exact ⟨i + 1, by omega, by omega, by go_num, hB.out, hT.out, hW.out, hF.out⟩
      · obtain rfl : i = t.length := by omega
        obtain ⟨l9, a0, a1, f0, f1⟩ := F3.out
        go_wp2
        exact bodyPost_ret (v := .tuple #[.slice (some ⟨R, 0, none⟩) t.length t.length, faultV 0 0]) (by simp [results, Try.results8, faultV, go_sem, a0, a1, l9]) rfl (.inr ⟨HQ.out, R, by omega, rfl, ((R3.out.far (by simp; omega) _).far (by simp; omega) _).ext (fun j hj => by unfold upU; rw [if_pos hj]), (B3.out.setCell (by simp) _).setCell (by simp) _⟩)
  · have hq1 : ((valT t).1 != 0) = true := by simpa using hq
    have hq2 : ((valT t).1 == 0) = false := by simpa using hq
    have HQ := Lib.hid hq
    clear h hq
    unfold faultV at C1
    generalize (valT t).1 = q at *
    generalize (valT t).2 = r at *
    go_enter Try.func8, Try.ntmps8
    go_wp2_with fail
    refine (C1.out _ B0.out).mono ?_
    rintro e W1 ⟨rfl, b1⟩
    have F1 := Lib.hid (F0.out.below b1 F0.out.lt)
    have B1 := Lib.hid (B0.out.trans (b1.mono B0.out.size))
    obtain ⟨l9, a0, a1, f0, f1⟩ := F1.out
    have hs1 := B1.out.size
    clear b1
    go_wp2
    go_region
    go_wp2
    exact bodyPost_ret (v := .tuple #[.slice none 0 0, faultV q r]) (by simp [results, Try.results8, faultV, go_sem, a0, a1, l9]) rfl (.inl ⟨HQ.out, rfl, by repeat (first | exact B1.out | refine Below.setCell ?_ (by first | omega | (simp; done) | (simp; omega)) _ | refine Below.alloc ?_ (by first | omega | (simp; done) | (simp; omega)) _ | refine Below.drew ?_)⟩)

end Go.Proofs.Ytndhhofidkaomaa
