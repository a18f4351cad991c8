/- quota.ByOwner at every tree: the fault of the tree, or how much each user owns. Conditions: the tree's cells lie in memory as they read. -/
import Derived.Test.YtndhhofidkaomaaQtPlain
import Derived.Test.YtndhhofidkaomaaFsValid

set_option linter.all false
namespace Go.Proofs.Ytndhhofidkaomaa
open Go.RowKit

/-- What holds while the sizes are added up: the row R of eight sums, the tree's box pt. -/
structure BOwn (w wr : World) (t : Tr) (a : Option Addr) (c pt R i : Nat) : Prop where
  b : Below w.heap.size w wr
  tb : One wr pt (.slice a t.length c)
  row : Row wr R 8 (fun u => .int .i64 (ownTo t i u : Nat))
theorem BOwn.step {w wr z : World} {t : Tr} {a : Option Addr} {c pt R i : Nat} (h : BOwn w wr t a c pt R i) (hb : Below wr.heap.size wr z) : BOwn w z t a c pt R i :=
  ⟨h.b.trans (hb.mono h.b.size), h.tb.below hb h.tb.lt, h.row.below hb h.row.lt⟩
theorem BOwn.add {w wr : World} {t : Tr} {a : Option Addr} {c pt R i : Nat} (h : BOwn w wr t a c pt R i) (hw : w.heap.size ≤ R) (h1 : R ≠ pt) {m : Nat} (ho : (nod t i).o = (m : Int)) (hm : m < 8) {u : Int} (hu : u = (ownTo t i m : Nat) + (nod t i).dl) :
    BOwn w (wr.setCell ⟨R, m, none⟩ (.int .i64 u)) t a c pt R (i + 1) := by
  refine ⟨h.b.setCell hw _, h.tb.far (by simpa using h1.symm) _, (h.row.put hm _).ext fun j hj => ?_⟩
  rw [ownTo_succ, ho]
  by_cases e : j = m
  · subst e; rw [if_pos rfl, if_pos rfl, hu]; congr 1
  · rw [if_neg e, if_neg (by omega)]; congr 1

/-- What quota.ByOwner returns: the fault, or a new row of sums. -/
def ByPost (t : Tr) (w : World) (e : Ending) (w' : World) : Prop :=
  ((valT t).1 ≠ 0 ∧ e = .returned (.tuple #[.slice none 0 0, faultV (valT t).1 (valT t).2]) ∧ Below w.heap.size w w') ∨
    ((valT t).1 = 0 ∧ ∃ R, w.heap.size ≤ R ∧ e = .returned (.tuple #[.slice (some ⟨R, 0, none⟩) 8 8, faultV 0 0]) ∧ Row w' R 8 (fun u => .int .i64 (ownTo t t.length u : Nat)) ∧ Below w.heap.size w w')

set_option maxRecDepth 100000 in
set_option maxHeartbeats 3200000 in
theorem byOwner_any (a : Option Addr) (c : Nat) (t : Tr) (w : World) (h : Nods w w.heap.size a c t) :
    Calls Try.prog 18 #[.agg #[.slice a t.length c]] w (ByPost t w) := by
  have C1 := Lib.hid (fun W (hb : Below w.heap.size w W) => validT_any a c t W (h.up hb))
  have T0 := Lib.hid (show One ((w.alloc (.cells #[.slice a t.length c] 24)).alloc (.cells #[.int .i64 0, .int .i64 0] 27)) w.heap.size (.slice a t.length c) from (One.new w _ _).alloc _)
  have F0 := Lib.hid (show FBox ((w.alloc (.cells #[.slice a t.length c] 24)).alloc (.cells #[.int .i64 0, .int .i64 0] 27)) (w.heap.size + 1) 0 0 from (FBox.new (w.alloc _) 0 0 _).at_ (by simp))
  have B0 := Lib.hid (show Below w.heap.size w ((w.alloc (.cells #[.slice a t.length c] 24)).alloc (.cells #[.int .i64 0, .int .i64 0] 27)) from ((Below.refl _ _).alloc (Nat.le_refl _) _).alloc (by first | omega | (simp; done) | (simp; omega)) _)
  unfold ByPost
  by_cases hq : (valT t).1 = 0
  · obtain ⟨hd, p4⟩ := valT_ok hq
    have hz := valT_zero hq
    have H1 := Lib.hid (Pass.ok1 hd (p4.mono (by omega)))
    have HQ := Lib.hid hq
    have H := Lib.hid h
    have hmk : ∀ w : World, (Instr.makeSlice 25 (.int .i64 8) (.int .i64 8)).run Try.prog w = .ok (.slice (some ⟨w.heap.size, 0, none⟩) 8 8) (w.alloc (.cells (madeCells #[.int .i64 0] 8) 3)) := fun w => make_ints 8 (by omega) w
    have h40 := H1.out.le
    rw [hz] at C1
    clear hd p4 hq hz h
    unfold faultV at C1
    go_enter Try.func18, Try.ntmps18
    go_wp2_with fail
    refine (C1.out _ B0.out).mono ?_
    rintro e W1 ⟨rfl, b1⟩
    have T1 := Lib.hid ((T0.out.below b1 T0.out.lt).alloc (.cells #[.int .i64 0, .int .i64 0] 27))
    have F1 := Lib.hid (F0.out.below b1 F0.out.lt)
    have B1 := Lib.hid (B0.out.trans (b1.mono B0.out.size))
    have tc := (T0.out.below b1 T0.out.lt).c0
    have tl := (T0.out.below b1 T0.out.lt).lt
    clear b1
    have R1 := Lib.hid (show BOwn w ((W1.alloc (.cells #[.int .i64 0, .int .i64 0] 27)).alloc (.cells (madeCells #[.int .i64 0] 8) 3)) t a c w.heap.size (W1.heap.size + 1) 0 from
      ⟨(B1.out.alloc B1.out.size _).alloc (by have := B1.out.size; simp; omega) _, T1.out.alloc _, ((row_new (W1.alloc _) 8 (.int .i64 0) _).at_ (by simp)).ext (fun j _ => by rw [ownTo_zero]; rfl)⟩)
    have FR := Lib.hid ((F1.out.alloc (.cells #[.int .i64 0, .int .i64 0] 27)).alloc (.cells (madeCells #[.int .i64 0] 8) 3))
    have hRw : w.heap.size + 1 < W1.heap.size + 1 := by have := F1.out.lt; omega
    have tc2 := T1.out.c0
    have tl2 := T1.out.lt
    have tc3 := (T1.out.alloc (.cells (madeCells #[.int .i64 0] 8) 3)).c0
    go_wp2_with fail
    generalize hR : W1.heap.size + 1 = R at *
    generalize hW2 : (W1.alloc (.cells #[.int .i64 0, .int .i64 0] 27)).alloc (.cells (madeCells #[.int .i64 0] 8) 3) = W2 at *
    clear T1 F1 B1 tc tl tc2 tl2 tc3 C1 T0 F0 B0 hW2
    go_loopg [7, 18] t.length (fun gg _ s18 wr => ∃ i : Nat, i ≤ t.length ∧ t.length - i ≤ gg ∧ s18 = .int .i64 i ∧ Aside (BOwn w wr t a c w.heap.size R i) ∧ Aside (FBox wr (w.heap.size + 1) 0 0))
    case atStart => exact ⟨0, by omega, by omega, rfl, R1.out, FR.out⟩
    case round =>
      obtain ⟨i, hi, hg, rfl, I, FI⟩ := hrel
      clear R1 FR
      obtain ⟨w2, rfl⟩ : ∃ w2 : World, w2 = wr := ⟨_, rfl⟩
      by_cases hlt : i < t.length
      · have hltz : (i : Int) < (t.length : Int) := by omega
        have hm9 : t.length - (i + 1) < t.length - i := Nat.sub_lt_sub_left hlt (Nat.lt_succ_self i)
        obtain ⟨b, o, ve, vd, va, vx, rfl, hb, hc, hs⟩ := (H.out.below I.out.b).one hlt
        obtain ⟨ea, ec, rfl, _⟩ := hs.es
        obtain ⟨da, dc, rfl, _⟩ := hs.dl
        obtain ⟨aa, acp, rfl, _⟩ := hs.ac
        obtain ⟨xa, xc, rfl, _⟩ := hs.xs
        have h0 := hc.c0
        have h1 := hc.c1
        have h2 := hc.c2
        have h3 := hc.c3
        have h4 := hc.c4
        have h5 := hc.c5
        have h6 := hc.c6
        have h7 := hc.c7
        obtain ⟨m, hm, hm8⟩ := H1.out.own hlt
        have hdl := (H1.out.fine i).dl
        have hol := ownTo_le H1.out m i
        have HM := Lib.hid hm
        have HA := Lib.hid (fun (X : World) (hX : BOwn w X t (some ⟨b, o, none⟩) c w.heap.size R i) (u : Int) (hu : u = (ownTo t i m : Nat) + (nod t i).dl) => hX.add (by omega) (by omega) HM.out hm8 hu)
        rw [hm] at h1
        clear hc hs hm
        generalize (nod t i).k = gk at *
        generalize (nod t i).dl = gd at *
        generalize (nod t i).es.length = ge at *
        generalize (nod t i).ac.length = ga at *
        generalize (nod t i).xs.length = gx at *
        generalize (nod t i).q = gq at *
        generalize (nod t i).v = gv at *
        have I1 := Lib.hid (I.out.step ((Below.refl w2.heap.size w2).alloc (Nat.le_refl _) (.cells #[.int .i64 gk, .int .i64 (m : Int), .slice ea ge ec, .slice da gd dc, .slice aa ga acp, .slice xa gx xc, .int .i64 gq, .int .i64 gv] 47)))
        have F1 := Lib.hid (FI.out.alloc (.cells #[.int .i64 gk, .int .i64 (m : Int), .slice ea ge ec, .slice da gd dc, .slice aa ga acp, .slice xa gx xc, .int .i64 gq, .int .i64 gv] 47))
        have rc := I1.out.row.c m hm8
        have rz := I1.out.row.fz m
        have rl := I1.out.row.lt
        generalize hq : ownTo t i m = q at *
        have mz : (0 : Int) ≤ (m : Int) := Int.natCast_nonneg _
        have m8 : (m : Int) < 8 := by omega
        have hwr : IntKind.i64.wrap ((q : Int) + (gd : Int)) = (q : Int) + (gd : Int) := IntWalk.i64_in _ (by omega)
        go_wp2_with fail
        go_region
        all_goals
          go_wp2
          go_roundg (t.length - (i + 1))
          case measure => exact Nat.lt_of_lt_of_le hm9 hg
          case rel => exact ⟨i + 1, by omega, by omega, by go_num, HA.out _ (I1.out.step (Below.refl _ _).drew) _ rfl, (F1.out.below ((Below.refl _ _).drew) F1.out.lt).far (by first | omega | (simp; done) | (simp; omega)) _⟩
      · obtain rfl : i = t.length := by omega
        obtain ⟨l9, a0, a1, f0, f1⟩ := FI.out
        go_wp2
        exact bodyPost_ret (v := .tuple #[.slice (some ⟨R, 0, none⟩) 8 8, faultV 0 0]) (by simp [results, Try.results18, faultV, go_sem, a0, a1, l9]) rfl (.inr ⟨HQ.out, R, by omega, rfl, ((I.out.row.far (by simp; omega) _).far (by simp; omega) _), (I.out.b.setCell (by simp) _).setCell (by simp) _⟩)
  · have hq1 : ((valT t).1 != 0) = true := by simpa using hq
    have hq2 : ((valT t).1 == 0) = false := by simpa using hq
    have HQ := Lib.hid hq
    clear h hq
    unfold faultV at C1
    generalize (valT t).1 = q at *
    generalize (valT t).2 = r at *
    go_enter Try.func18, Try.ntmps18
    go_wp2_with fail
    refine (C1.out _ B0.out).mono ?_
    rintro e W1 ⟨rfl, b1⟩
    have F1 := Lib.hid (F0.out.below b1 F0.out.lt)
    have B1 := Lib.hid (B0.out.trans (b1.mono B0.out.size))
    obtain ⟨l9, a0, a1, f0, f1⟩ := F1.out
    have hs1 := B1.out.size
    clear b1
    go_wp2
    go_region
    go_wp2
    exact bodyPost_ret (v := .tuple #[.slice none 0 0, faultV q r]) (by simp [results, Try.results18, faultV, go_sem, a0, a1, l9]) rfl (.inl ⟨HQ.out, rfl, by repeat (first | exact B1.out | refine Below.setCell ?_ (by first | omega | (simp; done) | (simp; omega)) _ | refine Below.alloc ?_ (by first | omega | (simp; done) | (simp; omega)) _ | refine Below.drew ?_)⟩)

end Go.Proofs.Ytndhhofidkaomaa
