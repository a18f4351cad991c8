/- Package quota's reachedFrom and sizeOf: which inodes lie at or below an inode, how much the chosen ones hold. Conditions: the tree's inodes are valid by themselves, all walks from the start end; its cells lie in memory as they read. -/
import Derived.Test.YtndhhofidkaomaaQtPlain
import Derived.Test.YtndhhofidkaomaaFsValid

set_option linter.all false
namespace Go.Proofs.Ytndhhofidkaomaa
open Go.RowKit

def snocV (L : List Vis) (p : Vis) : List Vis := L ++ [p]
theorem fin_snocV (t : Tr) (xs : List ByteArray) (n : Nat) (L : List Vis) : fin_ snocV t xs n L = L ++ sub t xs n := by
  unfold fin_ snocV; rw [foldl_snoc]

/-- The three variables that the walk captures, and the tree. -/
structure REnv (W : World) (t : Tr) (a : Option Addr) (c pt R pc pf Bt : Nat) (L : List Vis) : Prop where
  row : Row W R t.length (fun j => .bool (hasL L j))
  cv : One W pc (.slice (some ⟨R, 0, none⟩) t.length t.length)
  tb : One W pt (.slice a t.length c)
  fb : One W pf (.func (.func 35) #[] #[.pointer (some ⟨pc, 0, none⟩), .pointer (some ⟨pt, 0, none⟩), .pointer (some ⟨pf, 0, none⟩)])
  nd : Nods W Bt a c t
theorem REnv.step {W W' : World} {t : Tr} {a : Option Addr} {c pt R pc pf Bt : Nat} {L : List Vis} (h : REnv W t a c pt R pc pf Bt L) (hB : Bt ≤ W.heap.size) (hb : Below W.heap.size W W') : REnv W' t a c pt R pc pf Bt L :=
  ⟨h.row.below hb h.row.lt, h.cv.below hb h.cv.lt, h.tb.below hb h.tb.lt, h.fb.below hb h.fb.lt, h.nd.below (hb.mono hB)⟩
theorem REnv.mark {W : World} {t : Tr} {a : Option Addr} {c pt R pc pf Bt : Nat} {L : List Vis} (h : REnv W t a c pt R pc pf Bt L) (d0 : Bt ≤ R) (d1 : R ≠ pt) (d2 : R ≠ pc) (d3 : R ≠ pf) {n : Nat} (hn : n < t.length) (xs : List ByteArray) :
    REnv (W.setCell ⟨R, n, none⟩ (.bool true)) t a c pt R pc pf Bt (snocV L (xs, n)) := by
  refine ⟨(h.row.put hn (.bool true)).ext fun j _ => ?_, h.cv.far (by simpa using d2.symm) _, h.tb.far (by simpa using d1.symm) _, h.fb.far (by simpa using d3.symm) _, h.nd.keep fun b o hb => World.cell?_setCell_other _ _ _ _ (fun e => by have := congrArg Addr.block e; simp at this; omega)⟩
  unfold snocV
  rw [hasL_snoc]
  by_cases e : j = n
  · subst e; simp
  · rw [if_neg e, decide_eq_false (fun h => e h.symm), Bool.or_false]

set_option maxRecDepth 100000 in
set_option maxHeartbeats 4000000 in
theorem reach1_any (t : Tr) (h1 : Ok1 t) (s0 : Nat) (hF : Fin t s0) (hl : ∀ xs m, Rch t s0 xs m → m < t.length) (a : Option Addr) (c pt R pc pf Bt : Nat) (d0 : Bt ≤ pt) (d1 : pt < R) (d2 : R < pc) (d3 : pc < pf) :
    ∀ xs n, Rch t s0 xs n → ∀ (W : World) (L : List Vis), REnv W t a c pt R pc pf Bt L →
      Calls Try.prog 35 #[.int .i64 (n : Int), .pointer (some ⟨pc, 0, none⟩), .pointer (some ⟨pt, 0, none⟩), .pointer (some ⟨pf, 0, none⟩)] W fun e W' => e = .returned (.tuple #[]) ∧ REnv W' t a c pt R pc pf Bt (fin_ snocV t xs n L) ∧ Kept (fun b => b = R) none W W' := by
  refine sub_ind hF _ fun xs n hr ih => ?_
  intro W L E
  have hn := hl _ _ hr
  have hBW : Bt ≤ W.heap.size := by have := E.tb.lt; omega
  have lf := E.fb.lt
  obtain ⟨b, o, ve, vd, va, vx, rfl, hb, hc, hs⟩ := E.nd.one hn
  obtain ⟨ea, ec, rfl, hec, hel, hef, hex⟩ := hs.es
  have hc2 := hc.c2
  change W.cell? ⟨b, o + n * 8 + 2, none⟩ = some (.slice ea (kids t n).length ec) at hc2
  change (kids t n).length ≤ ec at hec
  change (kids t n).length ≤ 35184372088832 at hel
  have HEX := Lib.hid (show 0 < (kids t n).length → ∃ b o, ea = some ⟨b, o, none⟩ ∧ b < Bt ∧ ∀ j, j < (kids t n).length →
      W.cell? ⟨b, o + j * 2, none⟩ = some (.string ((kids t n).getD j D0).n) ∧ W.cell? ⟨b, o + j * 2 + 1, none⟩ = some (.int .i64 ((kids t n).getD j D0).i) from hex)
  have HME := Lib.hid (mid_end snocV hF hr L)
  have HKD := Lib.hid (fun k (hk : k < (kids t n).length) => (show (kids t n).getD k D0 ∈ kids t n from by rw [deD hk]; exact List.getElem_mem hk))
  have HIH := Lib.hid ih
  have HK := Lib.hid (fun e (he : e ∈ kids t n) => h1.kid he)
  have HMS := Lib.hid (fun k (hk : k < (kids t n).length) => mid_succ snocV t xs (kids t n) (snocV L (xs, n)) hk)
  have HMZ := Lib.hid (mid_zero snocV t xs (kids t n) (snocV L (xs, n)))
  have EM := Lib.hid (E.mark (by omega) (by omega) (by omega) (by omega) hn xs)
  have KM := Lib.hid (show Kept (fun b => b = R) none W (W.setCell ⟨R, n, none⟩ (.bool true)) from (show Kept (fun b => b = R) none W W from Kept.refl _ _ _).set (show (fun b => b = R) R from rfl) _)
  clear hex hs hc hef ih hr
  have nlz : (n : Int) < (t.length : Int) := by omega
  have nz : (0 : Int) ≤ (n : Int) := Int.natCast_nonneg _
  have r0 := E.row.c n hn
  have rz := E.row.fz n
  have rl := E.row.lt
  have cv0 := E.cv.c0
  have cvl := E.cv.lt
  have tl := E.tb.lt
  have b2 := EM.out.tb.c0
  have b3 : (W.setCell ⟨R, n, none⟩ (.bool true)).cell? ⟨b, o + n * 8 + 2, none⟩ = some (.slice ea (kids t n).length ec) := (World.cell?_setCell_other _ _ _ _ (by first | omega | (simp; done) | (simp; omega))).trans hc2
  clear E
  generalize kids t n = es at *
  generalize hm : es.length = m at *
  go_enter Try.func35, Try.ntmps35
  go_wp2_with fail
  have hs9 : (W.setCell ⟨R, n, none⟩ (.bool true)).heap.size = W.heap.size := by simp
  generalize hW1 : W.setCell ⟨R, n, none⟩ (.bool true) = W1 at *
  clear hW1 r0 rz rl cv0 b2 b3
  go_loopg [6, 17] m (fun gg _ s17 wr => ∃ k : Nat, k ≤ m ∧ m - k ≤ gg ∧ s17 = .int .i64 k ∧ Aside (REnv wr t (some ⟨b, o, none⟩) c pt R pc pf Bt (mid_ snocV t xs es (snocV L (xs, n)) k)) ∧ Aside (Kept (fun b => b = R) none W wr))
  case atStart => exact ⟨0, by omega, by omega, rfl, (show REnv W1 _ _ _ _ _ _ _ _ _ from by rw [HMZ.out]; exact EM.out), KM.out⟩
  case round =>
    obtain ⟨k, hk, hg, rfl, Er, Gr⟩ := hrel
    clear EM KM
    have hws := Gr.out.size
    by_cases hlt : k < m
    · have hltz : (k : Int) < (m : Int) := by omega
      obtain ⟨be, oe, rfl, hbe, hje⟩ := HEX.out (by omega)
      have hBr : Below Bt W wr := Gr.out.below hBW (fun q hq => by omega) (by simp)
      have g0 := (hBr.cell (p := ⟨be, oe + k * 2, none⟩) hbe).trans (hje k hlt).1
      have g1 := (hBr.cell (p := ⟨be, oe + k * 2 + 1, none⟩) hbe).trans (hje k hlt).2
      have HKE := Lib.hid (HKD.out k hlt)
      have HMK := Lib.hid (HMS.out k hlt)
      have HIc := Lib.hid (HIH.out _ HKE.out)
      obtain ⟨q1, q2, q3, _, _⟩ := HK.out _ HKE.out
      clear hje hBr
      generalize es.getD k D0 = e at *
      obtain ⟨x, i⟩ := e
      simp only at g0 g1 HMK HIc q1 q2 q3
      obtain ⟨n2, rfl⟩ := Int.eq_ofNat_of_zero_le (Int.le_of_lt q2)
      simp only [Int.toNat_natCast] at HMK HIc q3
      have hBr2 : Bt ≤ wr.heap.size := Nat.le_trans hBW hws
      have E1 := Lib.hid (Er.out.step hBr2 ((Below.refl wr.heap.size wr).alloc (Nat.le_refl _) (.cells #[.string x, .int .i64 (n2 : Int)] 49)))
      have K1 := Lib.hid (show Kept (fun b => b = R) none W (wr.alloc (.cells #[.string x, .int .i64 (n2 : Int)] 49)) from Gr.out.trans (Kept.of_below ((Below.refl wr.heap.size wr).alloc (Nat.le_refl _) _)))
      have fc := E1.out.fb.c0
      have fl := Er.out.fb.lt
      go_wp2_with fail
      refine (HIc.out _ _ E1.out).mono ?_
      rintro e y ⟨rfl, E2, K2⟩
      have E3 := Lib.hid (show REnv y t (some ⟨b, o, none⟩) c pt R pc pf Bt (mid_ snocV t xs es (snocV L (xs, n)) (k + 1)) from by rw [HMK.out]; exact E2)
      have K3 := Lib.hid (K1.out.trans K2)
      clear E2 K2 E1 K1 fc
      go_wp2
      go_roundg (m - (k + 1))
      case measure => omega
      case rel => exact ⟨k + 1, by omega, by omega, by go_num, E3.out, K3.out⟩
    · obtain rfl : k = m := by omega
      have GE := Lib.hid Er.out
      go_wp2
      go_end0
      exact ⟨rfl, by rw [← HME.out]; exact GE.out, Gr.out⟩

/-- What reachedFrom returns: a new row that says of each inode whether it is reached. -/
def ReachPost (t : Tr) (n : Nat) (w : World) (e : Ending) (w' : World) : Prop :=
  ∃ R, w.heap.size ≤ R ∧ e = .returned (.slice (some ⟨R, 0, none⟩) t.length t.length) ∧ Row w' R t.length (fun j => .bool (hasL (visits t n) j)) ∧ Below w.heap.size w w'

set_option maxRecDepth 100000 in
set_option maxHeartbeats 1600000 in
theorem reached_any (a : Option Addr) (c : Nat) (t : Tr) (n : Nat) (w : World) (h1 : Ok1 t) (hF : Fin t n) (hl : ∀ xs m, Rch t n xs m → m < t.length) (h : Nods w w.heap.size a c t) :
    Calls Try.prog 21 #[.agg #[.slice a t.length c], .int .i64 (n : Int)] w (ReachPost t n w) := by
  have H := Lib.hid h
  have HR := Lib.hid (fun d1 d2 d3 W (E : REnv W t a c w.heap.size (w.heap.size + 1) (w.heap.size + 1 + 1) (w.heap.size + 1 + 1 + 1) w.heap.size []) => reach1_any t h1 n hF hl a c w.heap.size (w.heap.size + 1) (w.heap.size + 1 + 1) (w.heap.size + 1 + 1 + 1) w.heap.size (Nat.le_refl _) d1 d2 d3 [] n .nil W [] E)
  have hmk := make_bools t.length h1.le
  clear h h1 hF hl
  have BB := Lib.hid (show Below w.heap.size w ((((w.alloc (.cells #[.slice a t.length c] 24)).alloc (.cells (madeCells #[.bool false] t.length) 4)).alloc (.cells #[.slice (some ⟨w.heap.size + 1, 0, none⟩) t.length t.length] 51)).alloc (.cells #[.func (.func 35) #[] #[.pointer (some ⟨w.heap.size + 1 + 1, 0, none⟩), .pointer (some ⟨w.heap.size, 0, none⟩), .pointer (some ⟨w.heap.size + 1 + 1 + 1, 0, none⟩)]] 65)) from
    ((((Below.refl _ _).alloc (Nat.le_refl _) _).alloc (by first | omega | (simp; done) | (simp; omega)) _).alloc (by first | omega | (simp; done) | (simp; omega)) _).alloc (by first | omega | (simp; done) | (simp; omega)) _)
  have EE := Lib.hid (show REnv ((((w.alloc (.cells #[.slice a t.length c] 24)).alloc (.cells (madeCells #[.bool false] t.length) 4)).alloc (.cells #[.slice (some ⟨w.heap.size + 1, 0, none⟩) t.length t.length] 51)).alloc (.cells #[.func (.func 35) #[] #[.pointer (some ⟨w.heap.size + 1 + 1, 0, none⟩), .pointer (some ⟨w.heap.size, 0, none⟩), .pointer (some ⟨w.heap.size + 1 + 1 + 1, 0, none⟩)]] 65)) t a c w.heap.size (w.heap.size + 1) (w.heap.size + 1 + 1) (w.heap.size + 1 + 1 + 1) w.heap.size [] from
    ⟨((((row_new (w.alloc _) t.length (.bool false) _).alloc _).alloc _).at_ (by simp)).ext (fun _ _ => rfl), ((One.new ((w.alloc _).alloc _) _ _).alloc _).at_ (by simp), (((One.new w _ _).alloc _).alloc _).alloc _, (One.new (((w.alloc _).alloc _).alloc _) _ _).at_ (by simp), H.out.below BB.out⟩)
  unfold ReachPost
  go_enter Try.func21, Try.ntmps21
  go_wp2_with fail
  refine (HR.out (by omega) (by omega) (by omega) _ EE.out).mono ?_
  rintro e W2 ⟨rfl, I2, K2⟩
  rw [fin_snocV, List.nil_append] at I2
  have c0 := I2.cv.c0
  have B2 := Lib.hid (BB.out.trans (K2.below (by first | omega | (simp; done) | (simp; omega)) (fun k hk => by omega) (by simp)))
  have R2 := Lib.hid I2.row
  clear I2 K2 HR
  go_wp2
  go_ret
  exact ⟨w.heap.size + 1, by omega, rfl, R2.out, B2.out⟩

set_option maxRecDepth 100000 in
set_option maxHeartbeats 3200000 in
theorem sizeOf_any (a : Option Addr) (c : Nat) (t : Tr) (f : Nat → Bool) (R rc : Nat) (w : World) (h1 : Ok1 t) (h : Nods w w.heap.size a c t) (hrow : Row w R t.length (fun j => .bool (f j))) :
    Calls Try.prog 20 #[.agg #[.slice a t.length c], .slice (some ⟨R, 0, none⟩) t.length rc] w fun e w' => e = .returned (.int .i64 (szTo t f t.length : Nat)) ∧ Below w.heap.size w w' := by
  have H := Lib.hid h
  have H1 := Lib.hid h1
  have HR := Lib.hid hrow
  have h40 := h1.le
  have B0 := Lib.hid ((Below.refl w.heap.size w).alloc (Nat.le_refl _) (.cells #[.slice a t.length c] 24))
  have T0 := Lib.hid (One.new w (.slice a t.length c) 24)
  clear h h1 hrow
  go_enter Try.func20, Try.ntmps20
  go_wp2_with fail
  go_loopg [5, 6, 7, 11] t.length (fun gg s5 _ _ s11 wr => ∃ i : Nat, i ≤ t.length ∧ t.length - i ≤ gg ∧ s5 = .int .i64 (szTo t f i : Nat) ∧ s11 = .int .i64 i ∧ Aside (Below w.heap.size w wr))
  case atStart => exact ⟨0, by omega, by omega, by rw [szTo_zero]; rfl, rfl, B0.out⟩
  case round =>
    obtain ⟨i, hi, hg, rfl, rfl, I⟩ := hrel
    clear B0 T0
    by_cases hlt : i < t.length
    · have hltz : (i : Int) < (t.length : Int) := by omega
      have hi0 : (0 : Int) ≤ (i : Int) := Int.natCast_nonneg _
      have hm9 : t.length - (i + 1) < t.length - i := Nat.sub_lt_sub_left hlt (Nat.lt_succ_self i)
      obtain ⟨b, o, ve, vd, va, vx, rfl, hb, hc, hs⟩ := (H.out.below I.out).one hlt
      obtain ⟨da, dc, rfl, _⟩ := hs.dl
      obtain ⟨ea, ec, rfl, _⟩ := hs.es
      obtain ⟨aa, acp, rfl, _⟩ := hs.ac
      obtain ⟨xa, xc, rfl, _⟩ := hs.xs
      have h0 := hc.c0
      have h1 := hc.c1
      have h2 := hc.c2
      have h3 := hc.c3
      have h4 := hc.c4
      have h5 := hc.c5
      have h6 := hc.c6
      have h7 := hc.c7
      have hdl := (H1.out.fine i).dl
      have hol := szTo_le H1.out f i
      have HS := Lib.hid (szTo_succ t f i)
      have B1 := Lib.hid I.out
      have r0 := (I.out.cell (p := ⟨R, i, none⟩) HR.out.lt).trans (HR.out.c i hlt)
      have rl : R < wr.heap.size := Nat.lt_of_lt_of_le HR.out.lt I.out.size
      have hbs := I.out.size
      clear hc hs
      generalize (nod t i).k = gk at *
      generalize (nod t i).o = go at *
      generalize (nod t i).dl = gd at *
      generalize (nod t i).es.length = ge at *
      generalize (nod t i).ac.length = ga at *
      generalize (nod t i).xs.length = gx at *
      generalize (nod t i).q = gq at *
      generalize (nod t i).v = gv at *
      generalize szTo t f i = q at *
      have hwr : IntKind.i64.wrap ((q : Int) + (gd : Int)) = (q : Int) + (gd : Int) := IntWalk.i64_in _ (by omega)
      cases hx : f i with
      | true =>
        rw [hx] at r0
        have HS2 := Lib.hid (show szTo t f (i + 1) = q + gd from by have h9 := HS.out; rw [hx] at h9; simpa using h9)
        clear hx HS
        go_wp2
        go_roundg (t.length - (i + 1))
        case measure => exact Nat.lt_of_lt_of_le hm9 hg
        case rel => exact ⟨i + 1, by omega, by omega, by rw [HS2.out]; go_num, by go_num, B1.out.alloc hbs _⟩
      | false =>
        rw [hx] at r0
        have HS2 := Lib.hid (show szTo t f (i + 1) = q from by have h9 := HS.out; rw [hx] at h9; simpa using h9)
        clear hx HS
        go_wp2
        go_roundg (t.length - (i + 1))
        case measure => exact Nat.lt_of_lt_of_le hm9 hg
        case rel => exact ⟨i + 1, by omega, by omega, by rw [HS2.out], by go_num, B1.out.alloc hbs _⟩
    · obtain rfl : i = t.length := by omega
      go_wp2
      go_ret
      exact ⟨rfl, I.out⟩

end Go.Proofs.Ytndhhofidkaomaa
