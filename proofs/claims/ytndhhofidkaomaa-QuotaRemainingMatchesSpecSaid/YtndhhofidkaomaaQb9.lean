/- Package quota and what its laws compare it with, at this seat's translation.
   Condition: as each theorem states; this text: QtReach, QtFile, FsVTree, QtByOwner, QtUsage, QtRefFile, QtVisit. -/
import Derived.Test.YtndhhofidkaomaaQb4
import Derived.Test.YtndhhofidkaomaaQb7
import Derived.Test.YtndhhofidkaomaaQb8
import Derived.Test.YtndhhofidkaomaaQb6
import Derived.Deep.RegionHeld3

set_option linter.all false

/- Package quota's reachedFrom and sizeOf: which inodes lie at or below an inode, how much the chosen ones hold. Conditions: the tree's inodes are valid by themselves, all walks from the start end; its cells lie in memory as they read. -/

set_option linter.all false
namespace Go.Proofs.Ytndhhofidkaomaa
open Go.RowKit

def snocV (L : List Vis) (p : Vis) : List Vis := L ++ [p]
theorem fin_snocV (t : Tr) (xs : List ByteArray) (n : Nat) (L : List Vis) : fin_ snocV t xs n L = L ++ sub t xs n := by
  unfold fin_ snocV; rw [foldl_snoc]

/-- The three variables that the walk captures, and the tree. -/
structure REnv (W : World) (t : Tr) (a : Option Addr) (c pt R pc pf Bt : Nat) (L : List Vis) : Prop where
  row : Row W R t.length (fun j => .bool (hasL L j))
  cv : One W pc (.slice (some ⟨R, 0, none⟩) t.length t.length)
  tb : One W pt (.slice a t.length c)
  fb : One W pf (.func (.func 35) #[] #[.pointer (some ⟨pc, 0, none⟩), .pointer (some ⟨pt, 0, none⟩), .pointer (some ⟨pf, 0, none⟩)])
  nd : Nods W Bt a c t
theorem REnv.step {W W' : World} {t : Tr} {a : Option Addr} {c pt R pc pf Bt : Nat} {L : List Vis} (h : REnv W t a c pt R pc pf Bt L) (hB : Bt ≤ W.heap.size) (hb : Below W.heap.size W W') : REnv W' t a c pt R pc pf Bt L :=
  ⟨h.row.below hb h.row.lt, h.cv.below hb h.cv.lt, h.tb.below hb h.tb.lt, h.fb.below hb h.fb.lt, h.nd.below (hb.mono hB)⟩
theorem REnv.mark {W : World} {t : Tr} {a : Option Addr} {c pt R pc pf Bt : Nat} {L : List Vis} (h : REnv W t a c pt R pc pf Bt L) (d0 : Bt ≤ R) (d1 : R ≠ pt) (d2 : R ≠ pc) (d3 : R ≠ pf) {n : Nat} (hn : n < t.length) (xs : List ByteArray) :
    REnv (W.setCell ⟨R, n, none⟩ (.bool true)) t a c pt R pc pf Bt (snocV L (xs, n)) := by
  refine ⟨(h.row.put hn (.bool true)).ext fun j _ => ?_, h.cv.far (by simpa using d2.symm) _, h.tb.far (by simpa using d1.symm) _, h.fb.far (by simpa using d3.symm) _, h.nd.keep fun b o hb => World.cell?_setCell_other _ _ _ _ (fun e => by have := congrArg Addr.block e; simp at this; omega)⟩
  unfold snocV
  rw [hasL_snoc]
  by_cases e : j = n
  · subst e; simp
  · rw [if_neg e, decide_eq_false (fun h => e h.symm), Bool.or_false]

set_option maxRecDepth 100000 in
set_option maxHeartbeats 4000000 in
theorem reach1_any (t : Tr) (h1 : Ok1 t) (s0 : Nat) (hF : Fin t s0) (hl : ∀ xs m, Rch t s0 xs m → m < t.length) (a : Option Addr) (c pt R pc pf Bt : Nat) (d0 : Bt ≤ pt) (d1 : pt < R) (d2 : R < pc) (d3 : pc < pf) :
    ∀ xs n, Rch t s0 xs n → ∀ (W : World) (L : List Vis), REnv W t a c pt R pc pf Bt L →
      Calls Try.prog 35 #[.int .i64 (n : Int), .pointer (some ⟨pc, 0, none⟩), .pointer (some ⟨pt, 0, none⟩), .pointer (some ⟨pf, 0, none⟩)] W fun e W' => e = .returned (.tuple #[]) ∧ REnv W' t a c pt R pc pf Bt (fin_ snocV t xs n L) ∧ Kept (fun b => b = R) none W W' := by
  refine sub_ind hF _ fun xs n hr ih => ?_
  intro W L E
  have hn := hl _ _ hr
  have hBW : Bt ≤ W.heap.size := by have := E.tb.lt; omega
  have lf := E.fb.lt
  obtain ⟨b, o, ve, vd, va, vx, rfl, hb, hc, hs⟩ := E.nd.one hn
  obtain ⟨ea, ec, rfl, hec, hel, hef, hex⟩ := hs.es
  have hc2 := hc.c2
  change W.cell? ⟨b, o + n * 8 + 2, none⟩ = some (.slice ea (kids t n).length ec) at hc2
  change (kids t n).length ≤ ec at hec
  change (kids t n).length ≤ 35184372088832 at hel
  have HEX := Lib.hid (show 0 < (kids t n).length → ∃ b o, ea = some ⟨b, o, none⟩ ∧ b < Bt ∧ ∀ j, j < (kids t n).length →
      W.cell? ⟨b, o + j * 2, none⟩ = some (.string ((kids t n).getD j D0).n) ∧ W.cell? ⟨b, o + j * 2 + 1, none⟩ = some (.int .i64 ((kids t n).getD j D0).i) from hex)
  have HME := Lib.hid (mid_end snocV hF hr L)
  have HKD := Lib.hid (fun k (hk : k < (kids t n).length) => (show (kids t n).getD k D0 ∈ kids t n from by rw [deD hk]; exact List.getElem_mem hk))
  have HIH := Lib.hid ih
  have HK := Lib.hid (fun e (he : e ∈ kids t n) => h1.kid he)
  have HMS := Lib.hid (fun k (hk : k < (kids t n).length) => mid_succ snocV t xs (kids t n) (snocV L (xs, n)) hk)
  have HMZ := Lib.hid (mid_zero snocV t xs (kids t n) (snocV L (xs, n)))
  have EM := Lib.hid (E.mark (by omega) (by omega) (by omega) (by omega) hn xs)
  have KM := Lib.hid (show Kept (fun b => b = R) none W (W.setCell ⟨R, n, none⟩ (.bool true)) from (show Kept (fun b => b = R) none W W from Kept.refl _ _ _).set (show (fun b => b = R) R from rfl) _)
  clear hex hs hc hef ih hr
  have nlz : (n : Int) < (t.length : Int) := by omega
  have nz : (0 : Int) ≤ (n : Int) := Int.natCast_nonneg _
  have r0 := E.row.c n hn
  have rz := E.row.fz n
  have rl := E.row.lt
  have cv0 := E.cv.c0
  have cvl := E.cv.lt
  have tl := E.tb.lt
  have b2 := EM.out.tb.c0
  have b3 : (W.setCell ⟨R, n, none⟩ (.bool true)).cell? ⟨b, o + n * 8 + 2, none⟩ = some (.slice ea (kids t n).length ec) := (World.cell?_setCell_other _ _ _ _ (by first | omega | (simp; done) | (simp; omega))).trans hc2
  clear E
  generalize kids t n = es at *
  generalize hm : es.length = m at *
  go_enter Try.func35, Try.ntmps35
  go_wp2_with fail
  have hs9 : (W.setCell ⟨R, n, none⟩ (.bool true)).heap.size = W.heap.size := by simp
  generalize hW1 : W.setCell ⟨R, n, none⟩ (.bool true) = W1 at *
  clear hW1 r0 rz rl cv0 b2 b3
  go_loopg [6, 17] m (fun gg _ s17 wr => ∃ k : Nat, k ≤ m ∧ m - k ≤ gg ∧ s17 = .int .i64 k ∧ Aside (REnv wr t (some ⟨b, o, none⟩) c pt R pc pf Bt (mid_ snocV t xs es (snocV L (xs, n)) k)) ∧ Aside (Kept (fun b => b = R) none W wr))
  case atStart => exact ⟨0, by omega, by omega, rfl, (show REnv W1 _ _ _ _ _ _ _ _ _ from by rw [HMZ.out]; exact EM.out), KM.out⟩
  case round =>
    obtain ⟨k, hk, hg, rfl, Er, Gr⟩ := hrel
    clear EM KM
    have hws := Gr.out.size
    by_cases hlt : k < m
    · have hltz : (k : Int) < (m : Int) := by omega
      obtain ⟨be, oe, rfl, hbe, hje⟩ := HEX.out (by omega)
      have hBr : Below Bt W wr := Gr.out.below hBW (fun q hq => by omega) (by simp)
      have g0 := (hBr.cell (p := ⟨be, oe + k * 2, none⟩) hbe).trans (hje k hlt).1
      have g1 := (hBr.cell (p := ⟨be, oe + k * 2 + 1, none⟩) hbe).trans (hje k hlt).2
      have HKE := Lib.hid (HKD.out k hlt)
      have HMK := Lib.hid (HMS.out k hlt)
      have HIc := Lib.hid (HIH.out _ HKE.out)
      obtain ⟨q1, q2, q3, _, _⟩ := HK.out _ HKE.out
      clear hje hBr
      generalize es.getD k D0 = e at *
      obtain ⟨x, i⟩ := e
      simp only at g0 g1 HMK HIc q1 q2 q3
      obtain ⟨n2, rfl⟩ := Int.eq_ofNat_of_zero_le (Int.le_of_lt q2)
      simp only [Int.toNat_natCast] at HMK HIc q3
      have hBr2 : Bt ≤ wr.heap.size := Nat.le_trans hBW hws
      have E1 := Lib.hid (Er.out.step hBr2 ((Below.refl wr.heap.size wr).alloc (Nat.le_refl _) (.cells #[.string x, .int .i64 (n2 : Int)] 49)))
      have K1 := Lib.hid (show Kept (fun b => b = R) none W (wr.alloc (.cells #[.string x, .int .i64 (n2 : Int)] 49)) from Gr.out.trans (Kept.of_below ((Below.refl wr.heap.size wr).alloc (Nat.le_refl _) _)))
      have fc := E1.out.fb.c0
      have fl := Er.out.fb.lt
      go_wp2_with fail
      refine (HIc.out _ _ E1.out).mono ?_
      rintro e y ⟨rfl, E2, K2⟩
      have E3 := Lib.hid (show REnv y t (some ⟨b, o, none⟩) c pt R pc pf Bt (mid_ snocV t xs es (snocV L (xs, n)) (k + 1)) from by rw [HMK.out]; exact E2)
      have K3 := Lib.hid (K1.out.trans K2)
      clear E2 K2 E1 K1 fc
      go_wp2
      go_roundg (m - (k + 1))
      case measure => omega
      case rel => exact ⟨k + 1, by omega, by omega, by go_num, E3.out, K3.out⟩
    · obtain rfl : k = m := by omega
      have GE := Lib.hid Er.out
      go_wp2
      go_end0
      exact ⟨rfl, by rw [← HME.out]; exact GE.out, Gr.out⟩

/-- What reachedFrom returns: a new row that says of each inode whether it is reached. -/
def ReachPost (t : Tr) (n : Nat) (w : World) (e : Ending) (w' : World) : Prop :=
  ∃ R, w.heap.size ≤ R ∧ e = .returned (.slice (some ⟨R, 0, none⟩) t.length t.length) ∧ Row w' R t.length (fun j => .bool (hasL (visits t n) j)) ∧ Below w.heap.size w w'

set_option maxRecDepth 100000 in
set_option maxHeartbeats 1600000 in
theorem reached_any (a : Option Addr) (c : Nat) (t : Tr) (n : Nat) (w : World) (h1 : Ok1 t) (hF : Fin t n) (hl : ∀ xs m, Rch t n xs m → m < t.length) (h : Nods w w.heap.size a c t) :
    Calls Try.prog 21 #[.agg #[.slice a t.length c], .int .i64 (n : Int)] w (ReachPost t n w) := by
  have H := Lib.hid h
  have HR := Lib.hid (fun d1 d2 d3 W (E : REnv W t a c w.heap.size (w.heap.size + 1) (w.heap.size + 1 + 1) (w.heap.size + 1 + 1 + 1) w.heap.size []) => reach1_any t h1 n hF hl a c w.heap.size (w.heap.size + 1) (w.heap.size + 1 + 1) (w.heap.size + 1 + 1 + 1) w.heap.size (Nat.le_refl _) d1 d2 d3 [] n .nil W [] E)
  have hmk := make_bools t.length h1.le
  clear h h1 hF hl
  have BB := Lib.hid (show Below w.heap.size w ((((w.alloc (.cells #[.slice a t.length c] 24)).alloc (.cells (madeCells #[.bool false] t.length) 4)).alloc (.cells #[.slice (some ⟨w.heap.size + 1, 0, none⟩) t.length t.length] 51)).alloc (.cells #[.func (.func 35) #[] #[.pointer (some ⟨w.heap.size + 1 + 1, 0, none⟩), .pointer (some ⟨w.heap.size, 0, none⟩), .pointer (some ⟨w.heap.size + 1 + 1 + 1, 0, none⟩)]] 65)) from
    ((((Below.refl _ _).alloc (Nat.le_refl _) _).alloc (by first | omega | (simp; done) | (simp; omega)) _).alloc (by first | omega | (simp; done) | (simp; omega)) _).alloc (by first | omega | (simp; done) | (simp; omega)) _)
  have EE := Lib.hid (show REnv ((((w.alloc (.cells #[.slice a t.length c] 24)).alloc (.cells (madeCells #[.bool false] t.length) 4)).alloc (.cells #[.slice (some ⟨w.heap.size + 1, 0, none⟩) t.length t.length] 51)).alloc (.cells #[.func (.func 35) #[] #[.pointer (some ⟨w.heap.size + 1 + 1, 0, none⟩), .pointer (some ⟨w.heap.size, 0, none⟩), .pointer (some ⟨w.heap.size + 1 + 1 + 1, 0, none⟩)]] 65)) t a c w.heap.size (w.heap.size + 1) (w.heap.size + 1 + 1) (w.heap.size + 1 + 1 + 1) w.heap.size [] from
    ⟨((((row_new (w.alloc _) t.length (.bool false) _).alloc _).alloc _).at_ (by simp)).ext (fun _ _ => rfl), ((One.new ((w.alloc _).alloc _) _ _).alloc _).at_ (by simp), (((One.new w _ _).alloc _).alloc _).alloc _, (One.new (((w.alloc _).alloc _).alloc _) _ _).at_ (by simp), H.out.below BB.out⟩)
  unfold ReachPost
  go_enter Try.func21, Try.ntmps21
  go_wp2_with fail
  refine (HR.out (by omega) (by omega) (by omega) _ EE.out).mono ?_
  rintro e W2 ⟨rfl, I2, K2⟩
  rw [fin_snocV, List.nil_append] at I2
  have c0 := I2.cv.c0
  have B2 := Lib.hid (BB.out.trans (K2.below (by first | omega | (simp; done) | (simp; omega)) (fun k hk => by omega) (by simp)))
  have R2 := Lib.hid I2.row
  clear I2 K2 HR
  go_wp2
  go_ret
  exact ⟨w.heap.size + 1, by omega, rfl, R2.out, B2.out⟩

set_option maxRecDepth 100000 in
set_option maxHeartbeats 3200000 in
theorem sizeOf_any (a : Option Addr) (c : Nat) (t : Tr) (f : Nat → Bool) (R rc : Nat) (w : World) (h1 : Ok1 t) (h : Nods w w.heap.size a c t) (hrow : Row w R t.length (fun j => .bool (f j))) :
    Calls Try.prog 20 #[.agg #[.slice a t.length c], .slice (some ⟨R, 0, none⟩) t.length rc] w fun e w' => e = .returned (.int .i64 (szTo t f t.length : Nat)) ∧ Below w.heap.size w w' := by
  have H := Lib.hid h
  have H1 := Lib.hid h1
  have HR := Lib.hid hrow
  have h40 := h1.le
  have B0 := Lib.hid ((Below.refl w.heap.size w).alloc (Nat.le_refl _) (.cells #[.slice a t.length c] 24))
  have T0 := Lib.hid (One.new w (.slice a t.length c) 24)
  clear h h1 hrow
  go_enter Try.func20, Try.ntmps20
  go_wp2_with fail
  go_loopg [5, 6, 7, 11] t.length (fun gg s5 _ _ s11 wr => ∃ i : Nat, i ≤ t.length ∧ t.length - i ≤ gg ∧ s5 = .int .i64 (szTo t f i : Nat) ∧ s11 = .int .i64 i ∧ Aside (Below w.heap.size w wr))
  case atStart => exact ⟨0, by omega, by omega, by rw [szTo_zero]; rfl, rfl, B0.out⟩
  case round =>
    obtain ⟨i, hi, hg, rfl, rfl, I⟩ := hrel
    clear B0 T0
    by_cases hlt : i < t.length
    · have hltz : (i : Int) < (t.length : Int) := by omega
      have hi0 : (0 : Int) ≤ (i : Int) := Int.natCast_nonneg _
      have hm9 : t.length - (i + 1) < t.length - i := Nat.sub_lt_sub_left hlt (Nat.lt_succ_self i)
      obtain ⟨b, o, ve, vd, va, vx, rfl, hb, hc, hs⟩ := (H.out.below I.out).one hlt
      obtain ⟨da, dc, rfl, _⟩ := hs.dl
      obtain ⟨ea, ec, rfl, _⟩ := hs.es
      obtain ⟨aa, acp, rfl, _⟩ := hs.ac
      obtain ⟨xa, xc, rfl, _⟩ := hs.xs
      have h0 := hc.c0
      have h1 := hc.c1
      have h2 := hc.c2
      have h3 := hc.c3
      have h4 := hc.c4
      have h5 := hc.c5
      have h6 := hc.c6
      have h7 := hc.c7
      have hdl := (H1.out.fine i).dl
      have hol := szTo_le H1.out f i
      have HS := Lib.hid (szTo_succ t f i)
      have B1 := Lib.hid I.out
      have r0 := (I.out.cell (p := ⟨R, i, none⟩) HR.out.lt).trans (HR.out.c i hlt)
      have rl : R < wr.heap.size := Nat.lt_of_lt_of_le HR.out.lt I.out.size
      have hbs := I.out.size
      clear hc hs
      generalize (nod t i).k = gk at *
      generalize (nod t i).o = go at *
      generalize (nod t i).dl = gd at *
      generalize (nod t i).es.length = ge at *
      generalize (nod t i).ac.length = ga at *
      generalize (nod t i).xs.length = gx at *
      generalize (nod t i).q = gq at *
      generalize (nod t i).v = gv at *
      generalize szTo t f i = q at *
      have hwr : IntKind.i64.wrap ((q : Int) + (gd : Int)) = (q : Int) + (gd : Int) := IntWalk.i64_in _ (by omega)
      cases hx : f i with
      | true =>
        rw [hx] at r0
        have HS2 := Lib.hid (show szTo t f (i + 1) = q + gd from by have h9 := HS.out; rw [hx] at h9; simpa using h9)
        clear hx HS
        go_wp2
        go_roundg (t.length - (i + 1))
        case measure => exact Nat.lt_of_lt_of_le hm9 hg
        case rel => exact ⟨i + 1, by omega, by omega, by rw [HS2.out]; go_num, by go_num, B1.out.alloc hbs _⟩
      | false =>
        rw [hx] at r0
        have HS2 := Lib.hid (show szTo t f (i + 1) = q from by have h9 := HS.out; rw [hx] at h9; simpa using h9)
        clear hx HS
        go_wp2
        go_roundg (t.length - (i + 1))
        case measure => exact Nat.lt_of_lt_of_le hm9 hg
        case rel => exact ⟨i + 1, by omega, by omega, by rw [HS2.out], by go_num, B1.out.alloc hbs _⟩
    · obtain rfl : i = t.length := by omega
      go_wp2
      go_ret
      exact ⟨rfl, I.out⟩

end Go.Proofs.Ytndhhofidkaomaa

/- Package quota's checkFile: the first error of a tree, of a file's number in it and of a size. Conditions: the tree's cells lie in memory as they read; the numbers are an int's. -/

set_option linter.all false
namespace Go.Proofs.Ytndhhofidkaomaa
open Go.RowKit

/-- The fault of a tree, a file's number and a size. -/
def fileF (t : Tr) (n size : Int) : Int × Int :=
  if (valT t).1 ≠ 0 then valT t else if n < 0 ∨ (t.length : Int) ≤ n ∨ size < 0 ∨ 200 < size then (3, -1) else if (nod t n.toNat).k ≠ 2 then (8, -1) else (0, 0)
theorem fileF_zero {t : Tr} {n size : Int} (h : (fileF t n size).1 = 0) : (valT t).1 = 0 ∧ (∃ m : Nat, n = (m : Int) ∧ m < t.length ∧ (nod t m).k = 2) ∧ 0 ≤ size ∧ size ≤ 200 ∧ fileF t n size = (0, 0) := by
  by_cases h0 : (valT t).1 = 0
  · have e : fileF t n size = if n < 0 ∨ (t.length : Int) ≤ n ∨ size < 0 ∨ 200 < size then (3, -1) else if (nod t n.toNat).k ≠ 2 then (8, -1) else (0, 0) := by
      unfold fileF; rw [if_neg (by simpa using h0)]
    rw [e] at h ⊢
    by_cases h1 : n < 0 ∨ (t.length : Int) ≤ n ∨ size < 0 ∨ 200 < size
    · rw [if_pos h1] at h; exact absurd h (by decide)
    · rw [if_neg h1] at h ⊢
      by_cases h2 : (nod t n.toNat).k ≠ 2
      · rw [if_pos h2] at h; exact absurd h (by decide)
      · rw [if_neg h2]
        obtain ⟨m, rfl⟩ := Int.eq_ofNat_of_zero_le (show 0 ≤ n by omega)
        refine ⟨h0, ⟨m, rfl, by omega, by simpa using h2⟩, by omega, by omega, rfl⟩
  · have e : fileF t n size = valT t := by unfold fileF; rw [if_pos h0]
    rw [e] at h; exact absurd h h0

set_option maxRecDepth 100000 in
set_option maxHeartbeats 3200000 in
theorem checkFile_any (a : Option Addr) (c : Nat) (t : Tr) (n size : Int) (w : World) (h : Nods w w.heap.size a c t) :
    Calls Try.prog 26 #[.agg #[.slice a t.length c], .int .i64 n, .int .i64 size] w fun e w' => e = .returned (faultV (fileF t n size).1 (fileF t n size).2) ∧ Below w.heap.size w w' := by
  have C1 := Lib.hid (fun W (hb : Below w.heap.size w W) => validT_any a c t W (h.up hb))
  have T0 := Lib.hid (show One ((w.alloc (.cells #[.slice a t.length c] 24)).alloc (.cells #[.int .i64 0, .int .i64 0] 27)) w.heap.size (.slice a t.length c) from (One.new w _ _).alloc _)
  have F0 := Lib.hid (show FBox ((w.alloc (.cells #[.slice a t.length c] 24)).alloc (.cells #[.int .i64 0, .int .i64 0] 27)) (w.heap.size + 1) 0 0 from (FBox.new (w.alloc _) 0 0 _).at_ (by simp))
  have B0 := Lib.hid (show Below w.heap.size w ((w.alloc (.cells #[.slice a t.length c] 24)).alloc (.cells #[.int .i64 0, .int .i64 0] 27)) from ((Below.refl _ _).alloc (Nat.le_refl _) _).alloc (by first | omega | (simp; done) | (simp; omega)) _)
  unfold faultV at C1
  by_cases hq : (valT t).1 = 0
  · have hz := valT_zero hq
    have e : fileF t n size = if n < 0 ∨ (t.length : Int) ≤ n ∨ size < 0 ∨ 200 < size then (3, -1) else if (nod t n.toNat).k ≠ 2 then (8, -1) else (0, 0) := by
      unfold fileF; rw [if_neg (by simpa using hq)]
    rw [hz] at C1
    by_cases h1 : n < 0 ∨ (t.length : Int) ≤ n ∨ size < 0 ∨ 200 < size
    · rw [if_pos h1] at e
      have E := Lib.hid e
      clear e hz hq h
      have key : (decide (n < 0) = true) ∨ (decide (n < 0) = false ∧ decide ((t.length : Int) ≤ n) = true) ∨ (decide (n < 0) = false ∧ decide ((t.length : Int) ≤ n) = false ∧ decide (size < 0) = true) ∨ (decide (n < 0) = false ∧ decide ((t.length : Int) ≤ n) = false ∧ decide (size < 0) = false ∧ decide (200 < size) = true) := by
        simp only [decide_eq_true_eq, decide_eq_false_iff_not]
        omega
      clear h1
      rcases key with k1 | ⟨k1, k2⟩ | ⟨k1, k2, k3⟩ | ⟨k1, k2, k3, k4⟩
      all_goals
        go_enter Try.func26, Try.ntmps26
        go_wp2_with fail
        refine (C1.out _ B0.out).mono ?_
        rintro e W1 ⟨rfl, b1⟩
        have F1 := Lib.hid (F0.out.below b1 F0.out.lt)
        have B1 := Lib.hid (B0.out.trans (b1.mono B0.out.size))
        have tc := (T0.out.below b1 T0.out.lt).c0
        have tl := (T0.out.below b1 T0.out.lt).lt
        obtain ⟨l9, a0, a1, f0, f1⟩ := F1.out
        have hs1 := B1.out.size
        clear b1
        go_wp2
        exact bodyPost_ret (v := faultV 3 (-1)) (by simp [results, Try.results26, faultV, go_sem, a0, a1, l9]) rfl ⟨by rw [E.out], by repeat (first | exact B1.out | refine Below.setCell ?_ (by first | omega | (simp; done) | (simp; omega)) _ | refine Below.alloc ?_ (by first | omega | (simp; done) | (simp; omega)) _ | refine Below.drew ?_)⟩
    · rw [if_neg h1] at e
      obtain ⟨m, rfl⟩ := Int.eq_ofNat_of_zero_le (show 0 ≤ n by omega)
      have hm : m < t.length := by omega
      have k1 : decide ((m : Int) < 0) = false := decide_eq_false (by omega)
      have k2 : decide ((t.length : Int) ≤ (m : Int)) = false := decide_eq_false (by omega)
      have k3 : decide (size < 0) = false := decide_eq_false (by omega)
      have k4 : decide (200 < size) = false := decide_eq_false (by omega)
      have mlz : (m : Int) < (t.length : Int) := by omega
      have mz : (0 : Int) ≤ (m : Int) := Int.natCast_nonneg _
      rw [Int.toNat_natCast] at e
      obtain ⟨b, o, ve, vd, va, vx, rfl, hb, hc, hs⟩ := h.one hm
      have c0 := hc.c0
      clear hc hs h hz hq h1
      generalize (nod t m).k = gk at *
      by_cases h2 : gk = 2
      · subst h2
        rw [if_neg (by simp)] at e
        have E := Lib.hid e
        clear e
        go_enter Try.func26, Try.ntmps26
        go_wp2_with fail
        refine (C1.out _ B0.out).mono ?_
        rintro e W1 ⟨rfl, b1⟩
        have F1 := Lib.hid (F0.out.below b1 F0.out.lt)
        have B1 := Lib.hid (B0.out.trans (b1.mono B0.out.size))
        have tc := (T0.out.below b1 T0.out.lt).c0
        have tl := (T0.out.below b1 T0.out.lt).lt
        have d0 := (B1.out.cell (p := ⟨b, o + m * 8, none⟩) hb).trans c0
        have hbl : b < W1.heap.size := Nat.lt_of_lt_of_le hb B1.out.size
        obtain ⟨l9, a0, a1, f0, f1⟩ := F1.out
        have hs1 := B1.out.size
        clear b1
        go_wp2
        exact bodyPost_ret (v := faultV 0 0) (by simp [results, Try.results26, faultV, go_sem, a0, a1, l9]) rfl ⟨by rw [E.out], by repeat (first | exact B1.out | refine Below.setCell ?_ (by first | omega | (simp; done) | (simp; omega)) _ | refine Below.alloc ?_ (by first | omega | (simp; done) | (simp; omega)) _ | refine Below.drew ?_)⟩
      · rw [if_pos h2] at e
        have E := Lib.hid e
        have h2b : (gk != 2) = true := by simpa using h2
        clear e h2
        go_enter Try.func26, Try.ntmps26
        go_wp2_with fail
        refine (C1.out _ B0.out).mono ?_
        rintro e W1 ⟨rfl, b1⟩
        have F1 := Lib.hid (F0.out.below b1 F0.out.lt)
        have B1 := Lib.hid (B0.out.trans (b1.mono B0.out.size))
        have tc := (T0.out.below b1 T0.out.lt).c0
        have tl := (T0.out.below b1 T0.out.lt).lt
        have d0 := (B1.out.cell (p := ⟨b, o + m * 8, none⟩) hb).trans c0
        have hbl : b < W1.heap.size := Nat.lt_of_lt_of_le hb B1.out.size
        obtain ⟨l9, a0, a1, f0, f1⟩ := F1.out
        have hs1 := B1.out.size
        clear b1
        go_wp2
        exact bodyPost_ret (v := faultV 8 (-1)) (by simp [results, Try.results26, faultV, go_sem, a0, a1, l9]) rfl ⟨by rw [E.out], by repeat (first | exact B1.out | refine Below.setCell ?_ (by first | omega | (simp; done) | (simp; omega)) _ | refine Below.alloc ?_ (by first | omega | (simp; done) | (simp; omega)) _ | refine Below.drew ?_)⟩
  · have e : fileF t n size = valT t := by unfold fileF; rw [if_pos hq]
    have hq1 : ((valT t).1 != 0) = true := by simpa using hq
    have hq2 : ((valT t).1 == 0) = false := by simpa using hq
    have E := Lib.hid e
    clear h hq e
    generalize valT t = v at *
    obtain ⟨q, r⟩ := v
    simp only at *
    go_enter Try.func26, Try.ntmps26
    go_wp2_with fail
    refine (C1.out _ B0.out).mono ?_
    rintro e W1 ⟨rfl, b1⟩
    have F1 := Lib.hid (F0.out.below b1 F0.out.lt)
    have B1 := Lib.hid (B0.out.trans (b1.mono B0.out.size))
    obtain ⟨l9, a0, a1, f0, f1⟩ := F1.out
    have hs1 := B1.out.size
    clear b1
    go_wp2
    exact bodyPost_ret (v := faultV q r) (by simp [results, Try.results26, faultV, go_sem, a0, a1, l9]) rfl ⟨by rw [E.out], by repeat (first | exact B1.out | refine Below.setCell ?_ (by first | omega | (simp; done) | (simp; omega)) _ | refine Below.alloc ?_ (by first | omega | (simp; done) | (simp; omega)) _ | refine Below.drew ?_)⟩

end Go.Proofs.Ytndhhofidkaomaa

/- The reference's ValidateTree at every tree: the same fault as fstree.Validate. Conditions: the tree's cells lie in memory as they read. -/

set_option linter.all false
namespace Go.Proofs.Ytndhhofidkaomaa
open Go.RowKit

/-- What holds all through: the tree's box, and the box of the result. -/
structure TInv (w wr : World) (a : Option Addr) (n c : Nat) : Prop where
  b : Below w.heap.size w wr
  tb : One wr w.heap.size (.slice a n c)
  fb : FBox wr (w.heap.size + 1) 0 0
theorem TInv.step {w wr z : World} {a : Option Addr} {n c : Nat} (h : TInv w wr a n c) (hb : Below wr.heap.size wr z) : TInv w z a n c :=
  ⟨h.b.trans (hb.mono h.b.size), h.tb.below hb h.tb.lt, h.fb.below hb h.fb.lt⟩
theorem codeK0 (t : Tr) (n : Nat) : codeN t (nod t n) = codeK t 0 n := rfl
theorem codeLk_start {t : Tr} (h : (nod t 0).k = 1) : codeK t 1 0 = 0 := by
  change codeLk t 0 = 0
  unfold codeLk
  rw [if_neg (by rw [h]; simp)]
theorem bP_len (xs : List ByteArray) : (bP xs).size = (pstr xs).length := by unfold bP; simp [ByteArray.size]
theorem tooFar_bP {xs : List ByteArray} (hv : ∀ x ∈ xs, vname x = true) : tooFar xs = (decide (8 < xs.length) || decide (100 < (bP xs).size)) := by rw [tooFar_iff hv, bP_len]

set_option maxRecDepth 100000 in
set_option maxHeartbeats 8000000 in
theorem vtree_head (a : Option Addr) (c : Nat) (t : Tr) (w : World) (hd : Head t) (h : Nods w w.heap.size a c t) :
    Calls Try.prog 9 #[.agg #[.slice a t.length c]] w fun e w' => e = .returned (faultV (valT t).1 (valT t).2) ∧ Below w.heap.size w w' := by
  have H := Lib.hid h
  have HD := Lib.hid hd
  have h0 := hd.ne
  have h40 := hd.le
  obtain ⟨b, o, ve, vd, va, vx, rfl, hb, hc, hs⟩ := h.one h0
  have g0 := hc.c0
  rw [hd.root] at g0
  have g0 : w.cell? ⟨b, o, none⟩ = some (.int .i64 1) := by simpa using g0
  have hlz : ((t.length : Int) == 0) = false := by rw [beq_eq_false_iff_ne]; omega
  have hgz : decide ((40 : Int) < (t.length : Int)) = false := by rw [decide_eq_false_iff_not]; omega
  have h0z : (0 : Int) < (t.length : Int) := by omega
  have I0 := Lib.hid (show TInv w ((w.alloc (.cells #[.slice (some ⟨b, o, none⟩) t.length c] 24)).alloc (.cells #[.int .i64 0, .int .i64 0] 27)) (some ⟨b, o, none⟩) t.length c from
    ⟨((Below.refl _ _).alloc (Nat.le_refl _) _).alloc (by first | omega | (simp; done) | (simp; omega)) _, (One.new w _ _).alloc _, (FBox.new (w.alloc _) 0 0 _).at_ (by simp)⟩)
  have HB := Lib.hid hb
  clear hc hs h hd
  go_enter Try.func9, Try.ntmps9
  go_wp2_with fail
  clear g0
  go_loopg [3, 4] t.length (fun gg s3 _ wr => ∃ n : Nat, n ≤ t.length ∧ t.length - n ≤ gg ∧ s3 = .int .i64 n ∧ Aside (TInv w wr (some ⟨b, o, none⟩) t.length c) ∧ Aside (∀ j, j < n → codeK t 0 j = 0))
  case atStart => exact ⟨0, by omega, by omega, rfl, I0.out, fun j hj => absurd hj (Nat.not_lt_zero _)⟩
  case round =>
    obtain ⟨n, hn, hg, rfl, I, A⟩ := hrel
    clear I0
    obtain ⟨w2, rfl⟩ : ∃ w2 : World, w2 = wr := ⟨_, rfl⟩
    have tc := I.out.tb.c0
    have tl := I.out.tb.lt
    have hbs := I.out.b.size
    have hb := Nat.lt_of_lt_of_le HB.out hbs
    by_cases hln : n < t.length
    · have hlnz : (n : Int) < (t.length : Int) := by omega
      have hn0 : (0 : Int) ≤ (n : Int) := Int.natCast_nonneg _
      have hm8 : t.length - (n + 1) < t.length - n := Nat.sub_lt_sub_left hln (Nat.lt_succ_self n)
      obtain ⟨b', o', ve, vd, va, vx, hae, _, hc, hs⟩ := (H.out.up I.out.b).one hln
      injection hae with hae
      injection hae with e1 e2 _
      subst e1 e2
      obtain ⟨ea, ec, rfl⟩ : ∃ ea ec, ve = .slice ea (nod t n).es.length ec := by obtain ⟨ea, ec, e, _⟩ := hs.es; exact ⟨ea, ec, e⟩
      obtain ⟨da, dc, rfl⟩ : ∃ da dc, vd = .slice da (nod t n).dl dc := by obtain ⟨da, dc, e, _⟩ := hs.dl; exact ⟨da, dc, e⟩
      obtain ⟨aa, acp, rfl⟩ : ∃ aa ac, va = .slice aa (nod t n).ac.length ac := by obtain ⟨da, dc, e, _⟩ := hs.ac; exact ⟨da, dc, e⟩
      obtain ⟨xa, xc, rfl⟩ : ∃ xa xc, vx = .slice xa (nod t n).xs.length xc := by obtain ⟨da, dc, e, _⟩ := hs.xs; exact ⟨da, dc, e⟩
      have D := Lib.hid (fun W (hW : Below w2.heap.size w2 W) => inodeCode_any (some ⟨b, o, none⟩) c t (nod t n) _ _ _ _ W ((H.out.up I.out.b).up hW) (hs.up hW))
      have K := Lib.hid (fun y (hy : Below w2.heap.size w2 y) => (show Below w2.heap.size w2 y ∧ y.cell? ⟨w.heap.size, 0, none⟩ = some (.slice (some ⟨b, o, none⟩) t.length c) ∧ y.cell? ⟨b, o + n * 8, none⟩ = some (.int .i64 (nod t n).k) ∧ y.cell? ⟨b, o + n * 8 + 1, none⟩ = some (.int .i64 (nod t n).o) ∧ y.cell? ⟨b, o + n * 8 + 2, none⟩ = some (.slice ea (nod t n).es.length ec) ∧ y.cell? ⟨b, o + n * 8 + 3, none⟩ = some (.slice da (nod t n).dl dc) ∧ y.cell? ⟨b, o + n * 8 + 4, none⟩ = some (.slice aa (nod t n).ac.length acp) ∧ y.cell? ⟨b, o + n * 8 + 5, none⟩ = some (.slice xa (nod t n).xs.length xc) ∧ y.cell? ⟨b, o + n * 8 + 6, none⟩ = some (.int .i64 (nod t n).q) ∧ y.cell? ⟨b, o + n * 8 + 7, none⟩ = some (.int .i64 (nod t n).v) from
        ⟨hy, (hy.cell (p := ⟨w.heap.size, 0, none⟩) tl).trans tc, (hy.cell (p := ⟨b, _, none⟩) hb).trans hc.c0, (hy.cell (p := ⟨b, _, none⟩) hb).trans hc.c1, (hy.cell (p := ⟨b, _, none⟩) hb).trans hc.c2, (hy.cell (p := ⟨b, _, none⟩) hb).trans hc.c3, (hy.cell (p := ⟨b, _, none⟩) hb).trans hc.c4, (hy.cell (p := ⟨b, _, none⟩) hb).trans hc.c5, (hy.cell (p := ⟨b, _, none⟩) hb).trans hc.c6, (hy.cell (p := ⟨b, _, none⟩) hb).trans hc.c7⟩))
      have h7 := hc.c7
      clear hc hs
      have hq : codeN t (nod t n) = codeK t 0 n := rfl
      generalize codeN t (nod t n) = q at *
      have HQ := Lib.hid hq.symm
      clear hq
      generalize (nod t n).k = gk at *
      generalize (nod t n).o = go at *
      generalize (nod t n).es.length = ge at *
      generalize (nod t n).dl = gd at *
      generalize (nod t n).ac.length = ga at *
      generalize (nod t n).xs.length = gx at *
      generalize (nod t n).q = gq at *
      generalize (nod t n).v = gv at *
      by_cases hq0 : q = 0
      · subst hq0
        go_wp2_with fail
        go_region_held3 (fun y => Below w2.heap.size w2 y ∧ y.cell? ⟨w.heap.size, 0, none⟩ = some (.slice (some ⟨b, o, none⟩) t.length c) ∧ y.cell? ⟨b, o + n * 8, none⟩ = some (.int .i64 gk) ∧ y.cell? ⟨b, o + n * 8 + 1, none⟩ = some (.int .i64 go) ∧ y.cell? ⟨b, o + n * 8 + 2, none⟩ = some (.slice ea ge ec) ∧ y.cell? ⟨b, o + n * 8 + 3, none⟩ = some (.slice da gd dc) ∧ y.cell? ⟨b, o + n * 8 + 4, none⟩ = some (.slice aa ga acp) ∧ y.cell? ⟨b, o + n * 8 + 5, none⟩ = some (.slice xa gx xc) ∧ y.cell? ⟨b, o + n * 8 + 6, none⟩ = some (.int .i64 gq) ∧ y.cell? ⟨b, o + n * 8 + 7, none⟩ = some (.int .i64 gv))
          (first | exact K.out _ hR | exact K.out _ (Below.refl _ _).drew)
          ((go_at_call 23; have hs0 := And.left ‹Below w2.heap.size w2 _ ∧ _›; refine (D.out _ hs0).mono ?_; rintro e y ⟨rfl, hb9⟩; have hR := hs0.trans (hb9.mono hs0.size)))
        all_goals
          have hz := And.left ‹Below w2.heap.size w2 _ ∧ _›
          have I8 := Lib.hid (I.out.step hz)
          go_wp2_with fail
          go_roundg (t.length - (n + 1))
          case measure => exact Nat.lt_of_lt_of_le hm8 hg
          case rel =>
            refine ⟨n + 1, by omega, by omega, by go_num, I8.out, (show Aside _ from fun j hj => ?_)⟩
            by_cases e : j = n
            · subst e; exact HQ.out
            · exact A.out j (by omega)
      · have hq1 : (q != 0) = true := by simpa using hq0
        have hq2 : (q == 0) = false := by simpa using hq0
        have HV := Lib.hid (valT_hit HD.out (k := 0) (by omega) (fun j hj => absurd hj (Nat.not_lt_zero _)) hln HQ.out hq0 A.out)
        clear hq0
        go_wp2_with fail
        go_region_held3 (fun y => Below w2.heap.size w2 y ∧ y.cell? ⟨w.heap.size, 0, none⟩ = some (.slice (some ⟨b, o, none⟩) t.length c) ∧ y.cell? ⟨b, o + n * 8, none⟩ = some (.int .i64 gk) ∧ y.cell? ⟨b, o + n * 8 + 1, none⟩ = some (.int .i64 go) ∧ y.cell? ⟨b, o + n * 8 + 2, none⟩ = some (.slice ea ge ec) ∧ y.cell? ⟨b, o + n * 8 + 3, none⟩ = some (.slice da gd dc) ∧ y.cell? ⟨b, o + n * 8 + 4, none⟩ = some (.slice aa ga acp) ∧ y.cell? ⟨b, o + n * 8 + 5, none⟩ = some (.slice xa gx xc) ∧ y.cell? ⟨b, o + n * 8 + 6, none⟩ = some (.int .i64 gq) ∧ y.cell? ⟨b, o + n * 8 + 7, none⟩ = some (.int .i64 gv))
          (first | exact K.out _ hR | exact K.out _ (Below.refl _ _).drew)
          ((go_at_call 23; have hs0 := And.left ‹Below w2.heap.size w2 _ ∧ _›; refine (D.out _ hs0).mono ?_; rintro e y ⟨rfl, hb9⟩; have hR := hs0.trans (hb9.mono hs0.size)))
        all_goals
          have hz := And.left ‹Below w2.heap.size w2 _ ∧ _›
          have I8 := Lib.hid (I.out.step hz)
          go_wp2_with fail
          refine (newFault_any _ _ _).mono ?_
          rintro e w9 ⟨rfl, b9⟩
          have I9 := Lib.hid (I8.out.step b9)
          obtain ⟨l9, a0, a1, f0, f1⟩ := I9.out.fb
          clear b9
          go_wp2
          exact bodyPost_ret (v := faultV q n) (by simp [results, Try.results9, faultV, go_sem, a0, a1]) rfl ⟨by rw [HV.out], (I9.out.b.setCell (by first | omega | (simp; done) | (simp; omega)) _).setCell (by first | omega | (simp; done) | (simp; omega)) _⟩
    · obtain rfl : n = t.length := by omega
      have P1 := Lib.hid (Pass.succ (k := 0) (fun j hj => absurd hj (Nat.not_lt_zero _)) A.out)
      have O1 := Lib.hid (Pass.ok1 HD.out P1.out)
      clear A
      go_wp2_with fail
      clear tc tl hbs hb hln hg hn
      go_loopg [5, 6] t.length (fun gg s5 _ wr => ∃ n : Nat, 1 ≤ n ∧ n ≤ t.length ∧ t.length - n ≤ gg ∧ s5 = .int .i64 n ∧ Aside (TInv w wr (some ⟨b, o, none⟩) t.length c) ∧ Aside (∀ j, j < n → codeK t 1 j = 0))
      case atStart => exact ⟨1, by omega, by omega, by omega, rfl, I.out, fun j hj => by (obtain rfl : j = 0 := by omega); exact codeLk_start HD.out.root⟩
      case round =>
        clear I
        obtain ⟨n, h1n, hn, hg, rfl, I, A⟩ := hrel
        obtain ⟨w2, rfl⟩ : ∃ w2 : World, w2 = wr := ⟨_, rfl⟩
        have tc := I.out.tb.c0
        have tl := I.out.tb.lt
        have hbs := I.out.b.size
        have hb := Nat.lt_of_lt_of_le HB.out hbs
        by_cases hln : n < t.length
        · have hlnz : (n : Int) < (t.length : Int) := by omega
          have hn0 : (0 : Int) ≤ (n : Int) := Int.natCast_nonneg _
          have hm8 : t.length - (n + 1) < t.length - n := Nat.sub_lt_sub_left hln (Nat.lt_succ_self n)
          obtain ⟨b', o', ve, vd, va, vx, hae, _, hc, hs⟩ := (H.out.up I.out.b).one hln
          injection hae with hae
          injection hae with e1 e2 _
          subst e1 e2
          have g0 := hc.c0
          have D := Lib.hid (linkCount_any (some ⟨b, o, none⟩) c t n w2 O1.out (H.out.up I.out.b))
          have HF := Lib.hid (show codeK t 1 n = if ((nod t n).k = 1 ∧ n ≠ 0 ∧ refs t n ≠ 1) ∨ ((nod t n).k = 2 ∧ refs t n = 0) then 11 else 0 from rfl)
          have hk := (O1.out.fine n).kind
          clear hc hs
          generalize refs t n = q at *
          generalize (nod t n).k = gk at *
          rcases hk with rfl | rfl | rfl
          · have HQ := Lib.hid (HF.out.trans (if_neg (by omega)))
            clear HF
            go_wp2_with fail
            refine D.out.mono ?_
            rintro e w3 ⟨rfl, b3⟩
            have I3 := Lib.hid (I.out.step b3)
            have tc3 := I3.out.tb.c0
            have tl3 := I3.out.tb.lt
            have g3 := (b3.cell (p := ⟨b, o + n * 8, none⟩) hb).trans g0
            clear b3
            go_wp2_with fail
            go_roundg (t.length - (n + 1))
            case measure => exact Nat.lt_of_lt_of_le hm8 hg
            case rel =>
              refine ⟨n + 1, by omega, by omega, by omega, by go_num, I3.out, (show Aside _ from fun j hj => ?_)⟩
              by_cases e : j = n
              · subst e; exact HQ.out
              · exact A.out j (by omega)
          · by_cases hq : q = 1
            · subst hq
              have HQ := Lib.hid (HF.out.trans (if_neg (by omega)))
              clear HF
              go_wp2_with fail
              refine D.out.mono ?_
              rintro e w3 ⟨rfl, b3⟩
              have I3 := Lib.hid (I.out.step b3)
              have tc3 := I3.out.tb.c0
              have tl3 := I3.out.tb.lt
              have g3 := (b3.cell (p := ⟨b, o + n * 8, none⟩) hb).trans g0
              clear b3
              go_wp2_with fail
              go_roundg (t.length - (n + 1))
              case measure => exact Nat.lt_of_lt_of_le hm8 hg
              case rel =>
                refine ⟨n + 1, by omega, by omega, by omega, by go_num, I3.out, (show Aside _ from fun j hj => ?_)⟩
                by_cases e : j = n
                · subst e; exact HQ.out
                · exact A.out j (by omega)
            · have hqb : ((q : Int) != 1) = true := by rw [bne_iff_ne]; omega
              have HQ := Lib.hid (HF.out.trans (if_pos (.inl ⟨rfl, by omega, hq⟩)))
              have HV := Lib.hid (valT_hit HD.out (k := 1) (by omega) P1.out hln HQ.out (by decide) A.out)
              clear HF hq
              go_wp2_with fail
              refine D.out.mono ?_
              rintro e w3 ⟨rfl, b3⟩
              have I3 := Lib.hid (I.out.step b3)
              have tc3 := I3.out.tb.c0
              have tl3 := I3.out.tb.lt
              have g3 := (b3.cell (p := ⟨b, o + n * 8, none⟩) hb).trans g0
              clear b3
              go_wp2_with fail
              refine (newFault_any _ _ _).mono ?_
              rintro e w9 ⟨rfl, b9⟩
              have I9 := Lib.hid (I3.out.step b9)
              obtain ⟨l9, a0, a1, f0, f1⟩ := I9.out.fb
              clear b9
              go_wp2
              exact bodyPost_ret (v := faultV 11 n) (by simp [results, Try.results9, faultV, go_sem, a0, a1]) rfl ⟨by rw [HV.out], (I9.out.b.setCell (by first | omega | (simp; done) | (simp; omega)) _).setCell (by first | omega | (simp; done) | (simp; omega)) _⟩
          · by_cases hq : q = 0
            · subst hq
              have HQ := Lib.hid (HF.out.trans (if_pos (.inr ⟨rfl, rfl⟩)))
              have HV := Lib.hid (valT_hit HD.out (k := 1) (by omega) P1.out hln HQ.out (by decide) A.out)
              have hqb : (((0 : Nat) : Int) == 0) = true := by decide
              clear HF
              go_wp2_with fail
              refine D.out.mono ?_
              rintro e w3 ⟨rfl, b3⟩
              have I3 := Lib.hid (I.out.step b3)
              have tc3 := I3.out.tb.c0
              have tl3 := I3.out.tb.lt
              have g3 := (b3.cell (p := ⟨b, o + n * 8, none⟩) hb).trans g0
              clear b3
              go_wp2_with fail
              refine (newFault_any _ _ _).mono ?_
              rintro e w9 ⟨rfl, b9⟩
              have I9 := Lib.hid (I3.out.step b9)
              obtain ⟨l9, a0, a1, f0, f1⟩ := I9.out.fb
              clear b9
              go_wp2
              exact bodyPost_ret (v := faultV 11 n) (by simp [results, Try.results9, faultV, go_sem, a0, a1]) rfl ⟨by rw [HV.out], (I9.out.b.setCell (by first | omega | (simp; done) | (simp; omega)) _).setCell (by first | omega | (simp; done) | (simp; omega)) _⟩
            · have hqb : ((q : Int) == 0) = false := by rw [beq_eq_false_iff_ne]; omega
              have HQ := Lib.hid (HF.out.trans (if_neg (by omega)))
              clear HF hq
              go_wp2_with fail
              refine D.out.mono ?_
              rintro e w3 ⟨rfl, b3⟩
              have I3 := Lib.hid (I.out.step b3)
              have tc3 := I3.out.tb.c0
              have tl3 := I3.out.tb.lt
              have g3 := (b3.cell (p := ⟨b, o + n * 8, none⟩) hb).trans g0
              clear b3
              go_wp2_with fail
              go_roundg (t.length - (n + 1))
              case measure => exact Nat.lt_of_lt_of_le hm8 hg
              case rel =>
                refine ⟨n + 1, by omega, by omega, by omega, by go_num, I3.out, (show Aside _ from fun j hj => ?_)⟩
                by_cases e : j = n
                · subst e; exact HQ.out
                · exact A.out j (by omega)
        · obtain rfl : n = t.length := by omega
          have P2 := Lib.hid (P1.out.succ A.out)
          have O2 := Lib.hid (Pass.ok2 HD.out P2.out)
          clear A
          have D := Lib.hid (routes_any (some ⟨b, o, none⟩) c t 0 w2 O1.out O2.out.from0 (H.out.up I.out.b))
          go_wp2_with fail
          refine D.out.mono ?_
          rintro e w5 ⟨v, L, rfl, hvs, hperm, _, b5⟩
          have I5 := Lib.hid (I.out.step b5)
          have hl6 : L.length ≤ 641 := by rw [← hperm.length_eq]; exact len_visits O1.out O2.out.from0
          have HH := Lib.hid (fun n => hasL_perm hperm n)
          have HFL := Lib.hid (fun n => farL_perm hperm n)
          have HNM := Lib.hid (fun p (hp : p ∈ L) => (O1.out.rch ((mem_visits O2.out.fin (ys := p.1) (m := p.2)).1 (hperm.mem_iff.2 hp)) O1.out.ne (by rw [HD.out.root]; decide)).2.2)
          have V5 := Lib.hid hvs
          obtain ⟨rb, rc, rfl, hrc, hL0, hrb, _⟩ := hvs
          clear b5 hperm D tc tl hbs hb hln hg hn
          go_wp2_with fail
          go_loopg [8, 9, 10, 11] t.length (fun gg s8 _ _ _ wr => ∃ n : Nat, n ≤ t.length ∧ t.length - n ≤ gg ∧ s8 = .int .i64 n ∧ Aside (TInv w wr (some ⟨b, o, none⟩) t.length c) ∧ Aside (Vs wr w5.heap.size (.slice (some ⟨rb, 0, none⟩) L.length rc) L) ∧ Aside (∀ j, j < n → codeK t 2 j = 0))
          case atStart => exact ⟨0, by omega, by omega, rfl, I5.out, V5.out, fun j hj => absurd hj (Nat.not_lt_zero _)⟩
          case round =>
            clear I I5 V5
            obtain ⟨n, hn, hg, rfl, I, V, A⟩ := hrel
            obtain ⟨w2, rfl⟩ : ∃ w2 : World, w2 = wr := ⟨_, rfl⟩
            have tc := I.out.tb.c0
            have tl := I.out.tb.lt
            have hbs := I.out.b.size
            have hb := Nat.lt_of_lt_of_le HB.out hbs
            by_cases hln : n < t.length
            · have hlnz : (n : Int) < (t.length : Int) := by omega
              have hn0 : (0 : Int) ≤ (n : Int) := Int.natCast_nonneg _
              have hm8 : t.length - (n + 1) < t.length - n := Nat.sub_lt_sub_left hln (Nat.lt_succ_self n)
              obtain ⟨b', o', ve, vd, va, vx, hae, _, hc, hs⟩ := (H.out.up I.out.b).one hln
              injection hae with hae
              injection hae with e1 e2 _
              subst e1 e2
              have g0 := hc.c0
              have HF := Lib.hid (show codeK t 2 n = if (nod t n).k ≠ 0 ∧ hasL (visits t 0) n = false then 11 else if farL (visits t 0) n = true then 10 else 0 from rfl)
              rw [HH.out n, HFL.out n] at HF
              clear hc hs
              generalize (nod t n).k = kd at *
              go_wp2_with fail
              go_loopg [9, 10, 11] L.length (fun gg s9 s10 s11 wq => ∃ j : Nat, j ≤ L.length ∧ L.length - j ≤ gg ∧ s9 = .bool (kd == 0 || hasL (L.take j) n) ∧ s10 = .bool (farL (L.take j) n) ∧ s11 = .int .i64 j ∧ Aside (w2 = wq))
              case atStart => exact ⟨0, by omega, by omega, by simp [hasL], rfl, rfl, rfl⟩
              case round =>
                obtain ⟨j, hj, hg2, rfl, rfl, rfl, hw⟩ := hrel
                have hw2 := hw.out
                subst hw2
                clear hw
                by_cases hlj : j < L.length
                · have hljz : (j : Int) < (L.length : Int) := by omega
                  have hj0 : (0 : Int) ≤ (j : Int) := Int.natCast_nonneg _
                  have hm7 : L.length - (j + 1) < L.length - j := Nat.sub_lt_sub_left hlj (Nat.lt_succ_self j)
                  obtain ⟨_, r0, r1, r2⟩ := V.out.cell hlj
                  have HT1 := Lib.hid (hasL_take (i := n) hlj)
                  have HT2 := Lib.hid (farL_take (i := n) hlj)
                  have HTF := Lib.hid (tooFar_bP (HNM.out _ (vis_lt hlj)))
                  generalize L.getD j V0 = p at *
                  obtain ⟨xs, m⟩ := p
                  simp only at r0 r1 r2 HT1 HT2 HTF
                  generalize tooFar xs = tf at *
                  generalize hasL (L.take j) n = hs at *
                  generalize hfr : farL (L.take j) n = fr at *
                  by_cases hmn : m = n
                  · subst hmn
                    cases fr with
                    | true =>
                      go_wp2_with fail
                      go_roundg (L.length - (j + 1))
                      case measure => exact Nat.lt_of_lt_of_le hm7 hg2
                      case rel => exact ⟨j + 1, by omega, by omega, by rw [HT1.out]; simp, by rw [HT2.out]; simp, by go_num, rfl⟩
                    | false =>
                      by_cases h8 : 8 < xs.length
                      · have h8z : (8 : Int) < (xs.length : Int) := by omega
                        have htf : tf = true := by rw [HTF.out]; simp [h8]
                        subst htf
                        clear h8 HTF
                        go_wp2_with fail
                        go_roundg (L.length - (j + 1))
                        case measure => exact Nat.lt_of_lt_of_le hm7 hg2
                        case rel => exact ⟨j + 1, by omega, by omega, by rw [HT1.out]; simp, by rw [HT2.out]; simp, by go_num, rfl⟩
                      · have h8z : decide ((8 : Int) < (xs.length : Int)) = false := by rw [decide_eq_false_iff_not]; omega
                        by_cases h1 : 100 < (bP xs).size
                        · have h1z : (100 : Int) < ((bP xs).size : Int) := by omega
                          have htf : tf = true := by rw [HTF.out]; simp [h1]
                          subst htf
                          clear h8 h1 HTF
                          go_wp2_with fail
                          go_roundg (L.length - (j + 1))
                          case measure => exact Nat.lt_of_lt_of_le hm7 hg2
                          case rel => exact ⟨j + 1, by omega, by omega, by rw [HT1.out]; simp, by rw [HT2.out]; simp, by go_num, rfl⟩
                        · have h1z : decide ((100 : Int) < ((bP xs).size : Int)) = false := by rw [decide_eq_false_iff_not]; omega
                          have htf : tf = false := by rw [HTF.out]; simp [h1, h8]
                          subst htf
                          clear h8 h1 HTF
                          go_wp2_with fail
                          go_roundg (L.length - (j + 1))
                          case measure => exact Nat.lt_of_lt_of_le hm7 hg2
                          case rel => exact ⟨j + 1, by omega, by omega, by rw [HT1.out]; simp, by rw [HT2.out]; simp, by go_num, rfl⟩
                  · have hmb : ((m : Int) == (n : Int)) = false := by rw [beq_eq_false_iff_ne]; omega
                    have hmd : decide (m = n) = false := decide_eq_false hmn
                    rw [hmd] at HT1 HT2
                    clear hmn hmd HTF
                    go_wp2_with fail
                    go_roundg (L.length - (j + 1))
                    case measure => exact Nat.lt_of_lt_of_le hm7 hg2
                    case rel => exact ⟨j + 1, by omega, by omega, by rw [HT1.out]; simp, by rw [HT2.out]; simp, by go_num, rfl⟩
                · obtain rfl : j = L.length := by omega
                  rw [List.take_length]
                  generalize hasL L n = hs at *
                  generalize farL L n = fr at *
                  by_cases hgh : (kd == 0 || hs) = true
                  · rw [hgh]
                    have hnot : ¬ (kd ≠ 0 ∧ hs = false) := by
                      rintro ⟨h1, h2⟩
                      rw [h2, Bool.or_false] at hgh
                      exact h1 (by simpa using hgh)
                    rw [if_neg hnot] at HF
                    clear hnot hgh
                    cases fr with
                    | true =>
                      have HQ := Lib.hid (HF.out.trans (if_pos rfl))
                      have HV := Lib.hid (valT_hit HD.out (k := 2) (by omega) P2.out hln HQ.out (by decide) A.out)
                      clear HF
                      go_wp2_with fail
                      refine (newFault_any _ _ _).mono ?_
                      rintro e w9 ⟨rfl, b9⟩
                      have I9 := Lib.hid (I.out.step b9)
                      obtain ⟨l9, a0, a1, f0, f1⟩ := I9.out.fb
                      clear b9
                      go_wp2
                      exact bodyPost_ret (v := faultV 10 n) (by simp [results, Try.results9, faultV, go_sem, a0, a1]) rfl ⟨by rw [HV.out], (I9.out.b.setCell (by first | omega | (simp; done) | (simp; omega)) _).setCell (by first | omega | (simp; done) | (simp; omega)) _⟩
                    | false =>
                      have HQ := Lib.hid (HF.out.trans (if_neg (by decide)))
                      clear HF
                      go_wp2_with fail
                      go_roundg (t.length - (n + 1))
                      case measure => exact Nat.lt_of_lt_of_le hm8 hg
                      case rel =>
                        refine ⟨n + 1, by omega, by omega, by go_num, I.out, V.out, (show Aside _ from fun j hj => ?_)⟩
                        by_cases e : j = n
                        · subst e; exact HQ.out
                        · exact A.out j (by omega)
                  · have hgf : (kd == 0 || hs) = false := by simpa using hgh
                    rw [hgf]
                    have hyes : kd ≠ 0 ∧ hs = false := by
                      rw [Bool.or_eq_false_iff] at hgf
                      exact ⟨by simpa using hgf.1, hgf.2⟩
                    have HQ := Lib.hid (HF.out.trans (if_pos hyes))
                    have HV := Lib.hid (valT_hit HD.out (k := 2) (by omega) P2.out hln HQ.out (by decide) A.out)
                    clear HF hgh hgf hyes
                    go_wp2_with fail
                    refine (newFault_any _ _ _).mono ?_
                    rintro e w9 ⟨rfl, b9⟩
                    have I9 := Lib.hid (I.out.step b9)
                    obtain ⟨l9, a0, a1, f0, f1⟩ := I9.out.fb
                    clear b9
                    go_wp2
                    exact bodyPost_ret (v := faultV 11 n) (by simp [results, Try.results9, faultV, go_sem, a0, a1]) rfl ⟨by rw [HV.out], (I9.out.b.setCell (by first | omega | (simp; done) | (simp; omega)) _).setCell (by first | omega | (simp; done) | (simp; omega)) _⟩
            · obtain rfl : n = t.length := by omega
              have P3 := Lib.hid (P2.out.succ A.out)
              clear A
              go_wp2_with fail
              clear tc tl hbs hb hln hg hn
              go_loopg [12] t.length (fun gg s12 wr => ∃ n : Nat, n ≤ t.length ∧ t.length - n ≤ gg ∧ s12 = .int .i64 n ∧ Aside (TInv w wr (some ⟨b, o, none⟩) t.length c) ∧ Aside (∀ j, j < n → codeK t 3 j = 0))
              case atStart => exact ⟨0, by omega, by omega, rfl, I.out, fun j hj => absurd hj (Nat.not_lt_zero _)⟩
              case round =>
                clear I V
                obtain ⟨n, hn, hg, rfl, I, A⟩ := hrel
                obtain ⟨w2, rfl⟩ : ∃ w2 : World, w2 = wr := ⟨_, rfl⟩
                have tc := I.out.tb.c0
                have tl := I.out.tb.lt
                have hbs := I.out.b.size
                have hb := Nat.lt_of_lt_of_le HB.out hbs
                by_cases hln : n < t.length
                · have hlnz : (n : Int) < (t.length : Int) := by omega
                  have hn0 : (0 : Int) ≤ (n : Int) := Int.natCast_nonneg _
                  have hm8 : t.length - (n + 1) < t.length - n := Nat.sub_lt_sub_left hln (Nat.lt_succ_self n)
                  obtain ⟨b', o', ve, vd, va, vx, hae, _, hc, hs⟩ := (H.out.up I.out.b).one hln
                  injection hae with hae
                  injection hae with e1 e2 _
                  subst e1 e2
                  have g6 := hc.c6
                  have HF := Lib.hid (show codeK t 3 n = if (nod t n).q ≠ 0 ∧ (nod t n).q < (usg t (visits t n) : Int) then 14 else 0 from rfl)
                  have hq0 := (O1.out.fine n).q0
                  have D := Lib.hid (fun (hq : (nod t n).q ≠ 0) => fun W (hW : Below w2.heap.size w2 W) => refUsage_any (some ⟨b, o, none⟩) c t n W O1.out (Pass.from_ HD.out P3.out hln (fun hk => hq ((O1.out.fine n).dir (by rw [hk]; decide)).2)).1 ((H.out.up I.out.b).up hW))
                  clear hc hs
                  generalize usg t (visits t n) = u at *
                  generalize (nod t n).q = q at *
                  by_cases hq : 0 < q
                  · have D2 := Lib.hid (D.out (by omega))
                    clear D
                    have K := Lib.hid (fun y (hy : Below w2.heap.size w2 y) => (show Below w2.heap.size w2 y ∧ y.cell? ⟨w.heap.size, 0, none⟩ = some (.slice (some ⟨b, o, none⟩) t.length c) ∧ y.cell? ⟨b, o + n * 8 + 6, none⟩ = some (.int .i64 q) from
                      ⟨hy, (hy.cell (p := ⟨w.heap.size, 0, none⟩) tl).trans tc, (hy.cell (p := ⟨b, _, none⟩) hb).trans g6⟩))
                    by_cases hu : q < (u : Int)
                    · have HQ := Lib.hid (HF.out.trans (if_pos ⟨by omega, hu⟩))
                      have HV := Lib.hid (valT_hit HD.out (k := 3) (by omega) P3.out hln HQ.out (by decide) A.out)
                      clear HF
                      go_wp2_with fail
                      go_region_held3 (fun y => Below w2.heap.size w2 y ∧ y.cell? ⟨w.heap.size, 0, none⟩ = some (.slice (some ⟨b, o, none⟩) t.length c) ∧ y.cell? ⟨b, o + n * 8 + 6, none⟩ = some (.int .i64 q))
                        (first | exact K.out _ hR | exact K.out _ (Below.refl _ _).drew)
                        ((go_at_call 10; have hs0 := And.left ‹Below w2.heap.size w2 _ ∧ _›; refine (D2.out _ hs0).mono ?_; rintro e y ⟨rfl, hb9⟩; have hR := hs0.trans (hb9.mono hs0.size)))
                      all_goals
                        have hz := And.left ‹Below w2.heap.size w2 _ ∧ _›
                        have I8 := Lib.hid (I.out.step hz)
                        go_wp2_with fail
                        refine (newFault_any _ _ _).mono ?_
                        rintro e w9 ⟨rfl, b9⟩
                        have I9 := Lib.hid (I8.out.step b9)
                        obtain ⟨l9, a0, a1, f0, f1⟩ := I9.out.fb
                        clear b9
                        go_wp2
                        exact bodyPost_ret (v := faultV 14 n) (by simp [results, Try.results9, faultV, go_sem, a0, a1]) rfl ⟨by rw [HV.out], (I9.out.b.setCell (by first | omega | (simp; done) | (simp; omega)) _).setCell (by first | omega | (simp; done) | (simp; omega)) _⟩
                    · have HQ := Lib.hid (HF.out.trans (if_neg (fun h => hu h.2)))
                      have hu2 : decide (q < (u : Int)) = false := by rw [decide_eq_false_iff_not]; exact hu
                      clear HF hu
                      go_wp2_with fail
                      go_region_held3 (fun y => Below w2.heap.size w2 y ∧ y.cell? ⟨w.heap.size, 0, none⟩ = some (.slice (some ⟨b, o, none⟩) t.length c) ∧ y.cell? ⟨b, o + n * 8 + 6, none⟩ = some (.int .i64 q))
                        (first | exact K.out _ hR | exact K.out _ (Below.refl _ _).drew)
                        ((go_at_call 10; have hs0 := And.left ‹Below w2.heap.size w2 _ ∧ _›; refine (D2.out _ hs0).mono ?_; rintro e y ⟨rfl, hb9⟩; have hR := hs0.trans (hb9.mono hs0.size)))
                      all_goals
                        have hz := And.left ‹Below w2.heap.size w2 _ ∧ _›
                        have I8 := Lib.hid (I.out.step hz)
                        go_wp2_with fail
                        go_roundg (t.length - (n + 1))
                        case measure => exact Nat.lt_of_lt_of_le hm8 hg
                        case rel =>
                          refine ⟨n + 1, by omega, by omega, by go_num, I8.out, (show Aside _ from fun j hj => ?_)⟩
                          by_cases e : j = n
                          · subst e; exact HQ.out
                          · exact A.out j (by omega)
                  · obtain rfl : q = 0 := by omega
                    have HQ := Lib.hid (HF.out.trans (if_neg (fun h => h.1 rfl)))
                    have I8 := Lib.hid (I.out.step (Below.refl w2.heap.size w2).drew)
                    clear HF D hq
                    go_wp2_with fail
                    go_region
                    all_goals
                      go_wp2_with fail
                      go_roundg (t.length - (n + 1))
                      case measure => exact Nat.lt_of_lt_of_le hm8 hg
                      case rel =>
                        refine ⟨n + 1, by omega, by omega, by go_num, I8.out, (show Aside _ from fun j hj => ?_)⟩
                        by_cases e : j = n
                        · subst e; exact HQ.out
                        · exact A.out j (by omega)
                · obtain rfl : n = t.length := by omega
                  have HV := Lib.hid (valT_miss HD.out (show Pass t 4 from P3.out.succ A.out))
                  obtain ⟨l9, a0, a1, f0, f1⟩ := I.out.fb
                  go_wp2
                  exact bodyPost_ret (v := faultV 0 0) (by simp [results, Try.results9, faultV, go_sem, a0, a1]) rfl ⟨by rw [HV.out], (I.out.b.setCell (by first | omega | (simp; done) | (simp; omega)) _).setCell (by first | omega | (simp; done) | (simp; omega)) _⟩

set_option maxRecDepth 100000 in
set_option maxHeartbeats 1600000 in
theorem vtree_any (a : Option Addr) (c : Nat) (t : Tr) (w : World) (h : Nods w w.heap.size a c t) :
    Calls Try.prog 9 #[.agg #[.slice a t.length c]] w fun e w' => e = .returned (faultV (valT t).1 (valT t).2) ∧ Below w.heap.size w w' := by
  have hll := h.len
  by_cases h0 : t.length = 0
  · have HV := Lib.hid (valT_none h0)
    clear h
    generalize t.length = m at *
    subst h0
    have I0 := Lib.hid (show TInv w ((w.alloc (.cells #[.slice a 0 c] 24)).alloc (.cells #[.int .i64 0, .int .i64 0] 27)) a 0 c from
      ⟨((Below.refl _ _).alloc (Nat.le_refl _) _).alloc (by first | omega | (simp; done) | (simp; omega)) _, (One.new w _ _).alloc _, (FBox.new (w.alloc _) 0 0 _).at_ (by simp)⟩)
    go_enter Try.func9, Try.ntmps9
    go_wp2_with fail
    refine (newFault_any _ _ _).mono ?_
    rintro e w9 ⟨rfl, b9⟩
    have I9 := Lib.hid (I0.out.step b9)
    obtain ⟨l9, a0, a1, f0, f1⟩ := I9.out.fb
    clear b9
    go_wp2
    exact bodyPost_ret (v := faultV 6 0) (by simp [results, Try.results9, faultV, go_sem, a0, a1]) rfl ⟨by rw [HV.out], (I9.out.b.setCell (by first | omega | (simp; done) | (simp; omega)) _).setCell (by first | omega | (simp; done) | (simp; omega)) _⟩
  · have hlz : ((t.length : Int) == 0) = false := by rw [beq_eq_false_iff_ne]; omega
    by_cases h40 : 40 < t.length
    · have HV := Lib.hid (valT_many h40)
      have hgz : (40 : Int) < (t.length : Int) := by omega
      clear h h0
      have I0 := Lib.hid (show TInv w ((w.alloc (.cells #[.slice a t.length c] 24)).alloc (.cells #[.int .i64 0, .int .i64 0] 27)) a t.length c from
        ⟨((Below.refl _ _).alloc (Nat.le_refl _) _).alloc (by first | omega | (simp; done) | (simp; omega)) _, (One.new w _ _).alloc _, (FBox.new (w.alloc _) 0 0 _).at_ (by simp)⟩)
      go_enter Try.func9, Try.ntmps9
      go_wp2_with fail
      refine (newFault_any _ _ _).mono ?_
      rintro e w9 ⟨rfl, b9⟩
      have I9 := Lib.hid (I0.out.step b9)
      obtain ⟨l9, a0, a1, f0, f1⟩ := I9.out.fb
      clear b9
      go_wp2
      exact bodyPost_ret (v := faultV 2 0) (by simp [results, Try.results9, faultV, go_sem, a0, a1]) rfl ⟨by rw [HV.out], (I9.out.b.setCell (by first | omega | (simp; done) | (simp; omega)) _).setCell (by first | omega | (simp; done) | (simp; omega)) _⟩
    · by_cases hr : (nod t 0).k = 1
      · exact vtree_head a c t w ⟨by omega, by omega, hr⟩ h
      · have HV := Lib.hid (valT_root h0 h40 hr)
        have hgz : decide ((40 : Int) < (t.length : Int)) = false := by rw [decide_eq_false_iff_not]; omega
        have h0z : (0 : Int) < (t.length : Int) := by omega
        obtain ⟨b, o, ve, vd, va, vx, rfl, hb, hc, hs⟩ := h.one (j := 0) (by omega)
        have g0 := hc.c0
        have g0 : w.cell? ⟨b, o, none⟩ = some (.int .i64 (nod t 0).k) := by simpa using g0
        clear hc hs h h0
        generalize (nod t 0).k = k at *
        have hk1 : (k != 1) = true := by simpa using hr
        clear hr
        have I0 := Lib.hid (show TInv w ((w.alloc (.cells #[.slice (some ⟨b, o, none⟩) t.length c] 24)).alloc (.cells #[.int .i64 0, .int .i64 0] 27)) (some ⟨b, o, none⟩) t.length c from
          ⟨((Below.refl _ _).alloc (Nat.le_refl _) _).alloc (by first | omega | (simp; done) | (simp; omega)) _, (One.new w _ _).alloc _, (FBox.new (w.alloc _) 0 0 _).at_ (by simp)⟩)
        go_enter Try.func9, Try.ntmps9
        go_wp2_with fail
        refine (newFault_any _ _ _).mono ?_
        rintro e w9 ⟨rfl, b9⟩
        have I9 := Lib.hid (I0.out.step b9)
        obtain ⟨l9, a0, a1, f0, f1⟩ := I9.out.fb
        clear b9
        go_wp2
        exact bodyPost_ret (v := faultV 8 0) (by simp [results, Try.results9, faultV, go_sem, a0, a1]) rfl ⟨by rw [HV.out], (I9.out.b.setCell (by first | omega | (simp; done) | (simp; omega)) _).setCell (by first | omega | (simp; done) | (simp; omega)) _⟩

end Go.Proofs.Ytndhhofidkaomaa

/- quota.ByOwner at every tree: the fault of the tree, or how much each user owns. Conditions: the tree's cells lie in memory as they read. -/

set_option linter.all false
namespace Go.Proofs.Ytndhhofidkaomaa
open Go.RowKit

/-- What holds while the sizes are added up: the row R of eight sums, the tree's box pt. -/
structure BOwn (w wr : World) (t : Tr) (a : Option Addr) (c pt R i : Nat) : Prop where
  b : Below w.heap.size w wr
  tb : One wr pt (.slice a t.length c)
  row : Row wr R 8 (fun u => .int .i64 (ownTo t i u : Nat))
theorem BOwn.step {w wr z : World} {t : Tr} {a : Option Addr} {c pt R i : Nat} (h : BOwn w wr t a c pt R i) (hb : Below wr.heap.size wr z) : BOwn w z t a c pt R i :=
  ⟨h.b.trans (hb.mono h.b.size), h.tb.below hb h.tb.lt, h.row.below hb h.row.lt⟩
theorem BOwn.add {w wr : World} {t : Tr} {a : Option Addr} {c pt R i : Nat} (h : BOwn w wr t a c pt R i) (hw : w.heap.size ≤ R) (h1 : R ≠ pt) {m : Nat} (ho : (nod t i).o = (m : Int)) (hm : m < 8) {u : Int} (hu : u = (ownTo t i m : Nat) + (nod t i).dl) :
    BOwn w (wr.setCell ⟨R, m, none⟩ (.int .i64 u)) t a c pt R (i + 1) := by
  refine ⟨h.b.setCell hw _, h.tb.far (by simpa using h1.symm) _, (h.row.put hm _).ext fun j hj => ?_⟩
  rw [ownTo_succ, ho]
  by_cases e : j = m
  · subst e; rw [if_pos rfl, if_pos rfl, hu]; congr 1
  · rw [if_neg e, if_neg (by omega)]; congr 1

/-- What quota.ByOwner returns: the fault, or a new row of sums. -/
def ByPost (t : Tr) (w : World) (e : Ending) (w' : World) : Prop :=
  ((valT t).1 ≠ 0 ∧ e = .returned (.tuple #[.slice none 0 0, faultV (valT t).1 (valT t).2]) ∧ Below w.heap.size w w') ∨
    ((valT t).1 = 0 ∧ ∃ R, w.heap.size ≤ R ∧ e = .returned (.tuple #[.slice (some ⟨R, 0, none⟩) 8 8, faultV 0 0]) ∧ Row w' R 8 (fun u => .int .i64 (ownTo t t.length u : Nat)) ∧ Below w.heap.size w w')

set_option maxRecDepth 100000 in
set_option maxHeartbeats 3200000 in
theorem byOwner_any (a : Option Addr) (c : Nat) (t : Tr) (w : World) (h : Nods w w.heap.size a c t) :
    Calls Try.prog 18 #[.agg #[.slice a t.length c]] w (ByPost t w) := by
  have C1 := Lib.hid (fun W (hb : Below w.heap.size w W) => validT_any a c t W (h.up hb))
  have T0 := Lib.hid (show One ((w.alloc (.cells #[.slice a t.length c] 24)).alloc (.cells #[.int .i64 0, .int .i64 0] 27)) w.heap.size (.slice a t.length c) from (One.new w _ _).alloc _)
  have F0 := Lib.hid (show FBox ((w.alloc (.cells #[.slice a t.length c] 24)).alloc (.cells #[.int .i64 0, .int .i64 0] 27)) (w.heap.size + 1) 0 0 from (FBox.new (w.alloc _) 0 0 _).at_ (by simp))
  have B0 := Lib.hid (show Below w.heap.size w ((w.alloc (.cells #[.slice a t.length c] 24)).alloc (.cells #[.int .i64 0, .int .i64 0] 27)) from ((Below.refl _ _).alloc (Nat.le_refl _) _).alloc (by first | omega | (simp; done) | (simp; omega)) _)
  unfold ByPost
  by_cases hq : (valT t).1 = 0
  · obtain ⟨hd, p4⟩ := valT_ok hq
    have hz := valT_zero hq
    have H1 := Lib.hid (Pass.ok1 hd (p4.mono (by omega)))
    have HQ := Lib.hid hq
    have H := Lib.hid h
    have hmk : ∀ w : World, (Instr.makeSlice 25 (.int .i64 8) (.int .i64 8)).run Try.prog w = .ok (.slice (some ⟨w.heap.size, 0, none⟩) 8 8) (w.alloc (.cells (madeCells #[.int .i64 0] 8) 3)) := fun w => make_ints 8 (by omega) w
    have h40 := H1.out.le
    rw [hz] at C1
    clear hd p4 hq hz h
    unfold faultV at C1
    go_enter Try.func18, Try.ntmps18
    go_wp2_with fail
    refine (C1.out _ B0.out).mono ?_
    rintro e W1 ⟨rfl, b1⟩
    have T1 := Lib.hid ((T0.out.below b1 T0.out.lt).alloc (.cells #[.int .i64 0, .int .i64 0] 27))
    have F1 := Lib.hid (F0.out.below b1 F0.out.lt)
    have B1 := Lib.hid (B0.out.trans (b1.mono B0.out.size))
    have tc := (T0.out.below b1 T0.out.lt).c0
    have tl := (T0.out.below b1 T0.out.lt).lt
    clear b1
    have R1 := Lib.hid (show BOwn w ((W1.alloc (.cells #[.int .i64 0, .int .i64 0] 27)).alloc (.cells (madeCells #[.int .i64 0] 8) 3)) t a c w.heap.size (W1.heap.size + 1) 0 from
      ⟨(B1.out.alloc B1.out.size _).alloc (by have := B1.out.size; simp; omega) _, T1.out.alloc _, ((row_new (W1.alloc _) 8 (.int .i64 0) _).at_ (by simp)).ext (fun j _ => by rw [ownTo_zero]; rfl)⟩)
    have FR := Lib.hid ((F1.out.alloc (.cells #[.int .i64 0, .int .i64 0] 27)).alloc (.cells (madeCells #[.int .i64 0] 8) 3))
    have hRw : w.heap.size + 1 < W1.heap.size + 1 := by have := F1.out.lt; omega
    have tc2 := T1.out.c0
    have tl2 := T1.out.lt
    have tc3 := (T1.out.alloc (.cells (madeCells #[.int .i64 0] 8) 3)).c0
    go_wp2_with fail
    generalize hR : W1.heap.size + 1 = R at *
    generalize hW2 : (W1.alloc (.cells #[.int .i64 0, .int .i64 0] 27)).alloc (.cells (madeCells #[.int .i64 0] 8) 3) = W2 at *
    clear T1 F1 B1 tc tl tc2 tl2 tc3 C1 T0 F0 B0 hW2
    go_loopg [7, 18] t.length (fun gg _ s18 wr => ∃ i : Nat, i ≤ t.length ∧ t.length - i ≤ gg ∧ s18 = .int .i64 i ∧ Aside (BOwn w wr t a c w.heap.size R i) ∧ Aside (FBox wr (w.heap.size + 1) 0 0))
    case atStart => exact ⟨0, by omega, by omega, rfl, R1.out, FR.out⟩
    case round =>
      obtain ⟨i, hi, hg, rfl, I, FI⟩ := hrel
      clear R1 FR
      obtain ⟨w2, rfl⟩ : ∃ w2 : World, w2 = wr := ⟨_, rfl⟩
      by_cases hlt : i < t.length
      · have hltz : (i : Int) < (t.length : Int) := by omega
        have hm9 : t.length - (i + 1) < t.length - i := Nat.sub_lt_sub_left hlt (Nat.lt_succ_self i)
        obtain ⟨b, o, ve, vd, va, vx, rfl, hb, hc, hs⟩ := (H.out.below I.out.b).one hlt
        obtain ⟨ea, ec, rfl, _⟩ := hs.es
        obtain ⟨da, dc, rfl, _⟩ := hs.dl
        obtain ⟨aa, acp, rfl, _⟩ := hs.ac
        obtain ⟨xa, xc, rfl, _⟩ := hs.xs
        have h0 := hc.c0
        have h1 := hc.c1
        have h2 := hc.c2
        have h3 := hc.c3
        have h4 := hc.c4
        have h5 := hc.c5
        have h6 := hc.c6
        have h7 := hc.c7
        obtain ⟨m, hm, hm8⟩ := H1.out.own hlt
        have hdl := (H1.out.fine i).dl
        have hol := ownTo_le H1.out m i
        have HM := Lib.hid hm
        have HA := Lib.hid (fun (X : World) (hX : BOwn w X t (some ⟨b, o, none⟩) c w.heap.size R i) (u : Int) (hu : u = (ownTo t i m : Nat) + (nod t i).dl) => hX.add (by omega) (by omega) HM.out hm8 hu)
        rw [hm] at h1
        clear hc hs hm
        generalize (nod t i).k = gk at *
        generalize (nod t i).dl = gd at *
        generalize (nod t i).es.length = ge at *
        generalize (nod t i).ac.length = ga at *
        generalize (nod t i).xs.length = gx at *
        generalize (nod t i).q = gq at *
        generalize (nod t i).v = gv at *
        have I1 := Lib.hid (I.out.step ((Below.refl w2.heap.size w2).alloc (Nat.le_refl _) (.cells #[.int .i64 gk, .int .i64 (m : Int), .slice ea ge ec, .slice da gd dc, .slice aa ga acp, .slice xa gx xc, .int .i64 gq, .int .i64 gv] 47)))
        have F1 := Lib.hid (FI.out.alloc (.cells #[.int .i64 gk, .int .i64 (m : Int), .slice ea ge ec, .slice da gd dc, .slice aa ga acp, .slice xa gx xc, .int .i64 gq, .int .i64 gv] 47))
        have rc := I1.out.row.c m hm8
        have rz := I1.out.row.fz m
        have rl := I1.out.row.lt
        generalize hq : ownTo t i m = q at *
        have mz : (0 : Int) ≤ (m : Int) := Int.natCast_nonneg _
        have m8 : (m : Int) < 8 := by omega
        have hwr : IntKind.i64.wrap ((q : Int) + (gd : Int)) = (q : Int) + (gd : Int) := IntWalk.i64_in _ (by omega)
        go_wp2_with fail
        go_region
        all_goals
          go_wp2
          go_roundg (t.length - (i + 1))
          case measure => exact Nat.lt_of_lt_of_le hm9 hg
          case rel => exact ⟨i + 1, by omega, by omega, by go_num, HA.out _ (I1.out.step (Below.refl _ _).drew) _ rfl, (F1.out.below ((Below.refl _ _).drew) F1.out.lt).far (by first | omega | (simp; done) | (simp; omega)) _⟩
      · obtain rfl : i = t.length := by omega
        obtain ⟨l9, a0, a1, f0, f1⟩ := FI.out
        go_wp2
        exact bodyPost_ret (v := .tuple #[.slice (some ⟨R, 0, none⟩) 8 8, faultV 0 0]) (by simp [results, Try.results18, faultV, go_sem, a0, a1, l9]) rfl (.inr ⟨HQ.out, R, by omega, rfl, ((I.out.row.far (by simp; omega) _).far (by simp; omega) _), (I.out.b.setCell (by simp) _).setCell (by simp) _⟩)
  · have hq1 : ((valT t).1 != 0) = true := by simpa using hq
    have hq2 : ((valT t).1 == 0) = false := by simpa using hq
    have HQ := Lib.hid hq
    clear h hq
    unfold faultV at C1
    generalize (valT t).1 = q at *
    generalize (valT t).2 = r at *
    go_enter Try.func18, Try.ntmps18
    go_wp2_with fail
    refine (C1.out _ B0.out).mono ?_
    rintro e W1 ⟨rfl, b1⟩
    have F1 := Lib.hid (F0.out.below b1 F0.out.lt)
    have B1 := Lib.hid (B0.out.trans (b1.mono B0.out.size))
    obtain ⟨l9, a0, a1, f0, f1⟩ := F1.out
    have hs1 := B1.out.size
    clear b1
    go_wp2
    go_region
    go_wp2
    exact bodyPost_ret (v := .tuple #[.slice none 0 0, faultV q r]) (by simp [results, Try.results18, faultV, go_sem, a0, a1, l9]) rfl (.inl ⟨HQ.out, rfl, by repeat (first | exact B1.out | refine Below.setCell ?_ (by first | omega | (simp; done) | (simp; omega)) _ | refine Below.alloc ?_ (by first | omega | (simp; done) | (simp; omega)) _ | refine Below.drew ?_)⟩)

end Go.Proofs.Ytndhhofidkaomaa

/- quota.Usage at every tree: the fault of the tree, or the usage of each inode. Conditions: the tree's cells lie in memory as they read. -/

set_option linter.all false
namespace Go.Proofs.Ytndhhofidkaomaa
open Go.RowKit

theorem free_rch {t : Tr} (h1 : Ok1 t) {n : Nat} (hk : (nod t n).k = 0) {xs : List ByteArray} {m : Nat} (hr : Rch t n xs m) : xs = [] ∧ m = n := by
  induction hr with
  | nil => exact ⟨rfl, rfl⟩
  | snoc hx he ih =>
    obtain ⟨_, rfl⟩ := ih
    have := (h1.kid he).2.2.2.2
    omega
theorem reach_ok {t : Tr} (hd : Head t) (p3 : Pass t 3) {n : Nat} (hn : n < t.length) : Fin t n ∧ ∀ xs m, Rch t n xs m → m < t.length := by
  have h1 := Pass.ok1 hd (p3.mono (by omega))
  by_cases hk : (nod t n).k = 0
  · exact ⟨fun xs m hr => by rw [(free_rch h1 hk hr).1]; simp, fun xs m hr => by rw [(free_rch h1 hk hr).2]; exact hn⟩
  · have fr := (Pass.from_ hd p3 hn hk).1
    exact ⟨fr.fin, fun xs m hr => (h1.rch hr fr.lt fr.used).1⟩
/-- The usage of an inode. -/
def usgN (t : Tr) (n : Nat) : Nat := usg t (visits t n)

/-- A row of which one cell is not known. -/
def RowBut (y : World) (R n k : Nat) (g : Nat → Value) : Prop := ∃ v, Row y R n (fun j => if j = k then v else g j)
theorem RowBut.below {y z : World} {R n k B : Nat} {g : Nat → Value} (h : RowBut y R n k g) (hb : Below B y z) (hR : R < B) : RowBut z R n k g := by
  obtain ⟨v, hr⟩ := h; exact ⟨v, hr.below hb hR⟩
theorem RowBut.lt {y : World} {R n k : Nat} {g : Nat → Value} (h : RowBut y R n k g) : R < y.heap.size := by obtain ⟨v, hr⟩ := h; exact hr.lt
theorem RowBut.put {y : World} {R n k : Nat} {g : Nat → Value} (h : RowBut y R n k g) (hk : k < n) (u : Value) : Row (y.setCell ⟨R, k, none⟩ u) R n (fun j => if j = k then u else g j) := by
  obtain ⟨v, hr⟩ := h
  refine (hr.put hk u).ext fun j _ => ?_
  by_cases e : j = k
  · rw [if_pos e, if_pos e]
  · rw [if_neg e, if_neg e, if_neg e]
theorem Row.but {y : World} {R n : Nat} {g : Nat → Value} (h : Row y R n g) (k : Nat) : RowBut y R n k g :=
  ⟨g k, h.ext fun j _ => by by_cases e : j = k; rw [if_pos e, e]; rw [if_neg e]⟩

/-- The values of the row when the first k are filled in. -/
def upU (t : Tr) (k j : Nat) : Value := .int .i64 (if j < k then (usgN t j : Nat) else (0 : Nat) : Nat)
theorem upU_succ (t : Tr) (k j : Nat) : (if j = k then Value.int .i64 (usgN t k : Nat) else upU t k j) = upU t (k + 1) j := by
  unfold upU
  by_cases e : j = k
  · subst e; rw [if_pos rfl, if_pos (by omega)]
  · rw [if_neg e]
    by_cases h : j < k
    · rw [if_pos h, if_pos (by omega)]
    · rw [if_neg h, if_neg (by omega)]

/-- What holds while a cell of the row is worked out. -/
structure USt (w y : World) (t : Tr) (a : Option Addr) (c R i : Nat) : Prop where
  b : Below w.heap.size w y
  row : RowBut y R t.length i (upU t i)
  fb : FBox y (w.heap.size + 1) 0 0
  tb : One y w.heap.size (.slice a t.length c)
theorem USt.step {w y z : World} {t : Tr} {a : Option Addr} {c R i : Nat} (h : USt w y t a c R i) (hb : Below y.heap.size y z) : USt w z t a c R i :=
  ⟨h.b.trans (hb.mono h.b.size), h.row.below hb h.row.lt, h.fb.below hb h.fb.lt, h.tb.below hb h.tb.lt⟩
theorem USt.store {w y : World} {t : Tr} {a : Option Addr} {c R i : Nat} (h : USt w y t a c R i) (hi : i < t.length) (hR : w.heap.size + 1 < R) (u : Value) : USt w (y.setCell ⟨R, i, none⟩ u) t a c R i :=
  ⟨h.b.setCell (by simp; omega) _, ⟨u, h.row.put hi u⟩, h.fb.far (by simp; omega) _, h.tb.far (by simp; omega) _⟩

/-- What quota.Usage returns: the fault, or a new row of usages. -/
def UsePost (t : Tr) (w : World) (e : Ending) (w' : World) : Prop :=
  ((valT t).1 ≠ 0 ∧ e = .returned (.tuple #[.slice none 0 0, faultV (valT t).1 (valT t).2]) ∧ Below w.heap.size w w') ∨
    ((valT t).1 = 0 ∧ ∃ R, w.heap.size ≤ R ∧ e = .returned (.tuple #[.slice (some ⟨R, 0, none⟩) t.length t.length, faultV 0 0]) ∧ Row w' R t.length (fun j => .int .i64 (usgN t j : Nat)) ∧ Below w.heap.size w w')

set_option maxRecDepth 100000 in
set_option maxHeartbeats 3200000 in
theorem use_any (a : Option Addr) (c : Nat) (t : Tr) (w : World) (h : Nods w w.heap.size a c t) :
    Calls Try.prog 8 #[.agg #[.slice a t.length c]] w (UsePost t w) := by
  have C1 := Lib.hid (fun W (hb : Below w.heap.size w W) => validT_any a c t W (h.up hb))
  have T0 := Lib.hid (show One ((w.alloc (.cells #[.slice a t.length c] 24)).alloc (.cells #[.int .i64 0, .int .i64 0] 27)) w.heap.size (.slice a t.length c) from (One.new w _ _).alloc _)
  have F0 := Lib.hid (show FBox ((w.alloc (.cells #[.slice a t.length c] 24)).alloc (.cells #[.int .i64 0, .int .i64 0] 27)) (w.heap.size + 1) 0 0 from (FBox.new (w.alloc _) 0 0 _).at_ (by simp))
  have B0 := Lib.hid (show Below w.heap.size w ((w.alloc (.cells #[.slice a t.length c] 24)).alloc (.cells #[.int .i64 0, .int .i64 0] 27)) from ((Below.refl _ _).alloc (Nat.le_refl _) _).alloc (by first | omega | (simp; done) | (simp; omega)) _)
  unfold UsePost
  by_cases hq : (valT t).1 = 0
  · obtain ⟨hd, p4⟩ := valT_ok hq
    have hz := valT_zero hq
    have H1 := Lib.hid (Pass.ok1 hd (p4.mono (by omega)))
    have HQ := Lib.hid hq
    have H := Lib.hid h
    have HRC := Lib.hid (fun n (hn : n < t.length) W (hb : Below w.heap.size w W) => reached_any a c t n W H1.out (reach_ok hd (p4.mono (by omega)) hn).1 (reach_ok hd (p4.mono (by omega)) hn).2 (h.up hb))
    have HSZ := Lib.hid (fun n R W (hb : Below w.heap.size w W) (hr : Row W R t.length (fun j => .bool (hasL (visits t n) j))) => (show Calls Try.prog 20 #[.agg #[.slice a t.length c], .slice (some ⟨R, 0, none⟩) t.length t.length] W fun e w' => e = .returned (.int .i64 (usgN t n : Nat)) ∧ Below W.heap.size W w' from sizeOf_any a c t (hasL (visits t n)) R t.length W H1.out (h.up hb) hr))
    unfold ReachPost at HRC
    have hmk := make_ints t.length H1.out.le
    have h40 := H1.out.le
    rw [hz] at C1
    clear hd p4 hq hz h
    unfold faultV at C1
    go_enter Try.func8, Try.ntmps8
    go_wp2_with fail
    refine (C1.out _ B0.out).mono ?_
    rintro e W1 ⟨rfl, b1⟩
    have T1 := Lib.hid ((T0.out.below b1 T0.out.lt).alloc (.cells #[.int .i64 0, .int .i64 0] 27))
    have F1 := Lib.hid (F0.out.below b1 F0.out.lt)
    have B1 := Lib.hid (B0.out.trans (b1.mono B0.out.size))
    have tc := (T0.out.below b1 T0.out.lt).c0
    have tl := (T0.out.below b1 T0.out.lt).lt
    clear b1
    have TR := Lib.hid (T1.out.alloc (.cells (madeCells #[.int .i64 0] t.length) 3))
    have BR := Lib.hid (show Below w.heap.size w ((W1.alloc (.cells #[.int .i64 0, .int .i64 0] 27)).alloc (.cells (madeCells #[.int .i64 0] t.length) 3)) from (B1.out.alloc B1.out.size _).alloc (by have := B1.out.size; simp; omega) _)
    have RR := Lib.hid (show Row ((W1.alloc (.cells #[.int .i64 0, .int .i64 0] 27)).alloc (.cells (madeCells #[.int .i64 0] t.length) 3)) (W1.heap.size + 1) t.length (upU t 0) from
      ((row_new (W1.alloc _) t.length (.int .i64 0) _).at_ (by simp)).ext (fun j _ => rfl))
    have FR := Lib.hid ((F1.out.alloc (.cells #[.int .i64 0, .int .i64 0] 27)).alloc (.cells (madeCells #[.int .i64 0] t.length) 3))
    have hRw : w.heap.size + 1 < W1.heap.size + 1 := by have := F1.out.lt; omega
    have tc2 := T1.out.c0
    have tl2 := T1.out.lt
    go_wp2_with fail
    generalize hR : W1.heap.size + 1 = R at *
    generalize hW2 : (W1.alloc (.cells #[.int .i64 0, .int .i64 0] 27)).alloc (.cells (madeCells #[.int .i64 0] t.length) 3) = W2 at *
    clear T1 F1 B1 tc tl tc2 tl2 C1 T0 F0 B0 hW2
    go_loopg [6, 19] t.length (fun gg _ s19 wr => ∃ i : Nat, i ≤ t.length ∧ t.length - i ≤ gg ∧ s19 = .int .i64 i ∧ Aside (Below w.heap.size w wr) ∧ Aside (One wr w.heap.size (.slice a t.length c)) ∧ Aside (Row wr R t.length (upU t i)) ∧ Aside (FBox wr (w.heap.size + 1) 0 0))
    case atStart => exact ⟨0, by omega, by omega, rfl, BR.out, TR.out, RR.out, FR.out⟩
    case round =>
      obtain ⟨i, hi, hg, rfl, B3, T3, R3, F3⟩ := hrel
      clear BR TR RR FR
      by_cases hlt : i < t.length
      · have hltz : (i : Int) < (t.length : Int) := by omega
        have hi0 : (0 : Int) ≤ (i : Int) := Int.natCast_nonneg _
        have hm9 : t.length - (i + 1) < t.length - i := Nat.sub_lt_sub_left hlt (Nat.lt_succ_self i)
        have HC := Lib.hid (HRC.out i hlt)
        have HZ := Lib.hid (HSZ.out i)
        have t0 := T3.out.c0
        have tl := T3.out.lt
        have rl := R3.out.lt
        have K := Lib.hid (fun y (hy : Below wr.heap.size wr y) => (show USt w y t a c R i ∧ y.cell? ⟨w.heap.size, 0, none⟩ = some (.slice a t.length c) from
          ⟨⟨B3.out.trans (hy.mono B3.out.size), (R3.out.but i).below hy rl, F3.out.below hy F3.out.lt, T3.out.below hy tl⟩, (hy.cell (p := ⟨w.heap.size, 0, none⟩) tl).trans t0⟩))
        go_wp2_with fail
        go_region_held3 (fun y => USt w y t a c R i ∧ y.cell? ⟨w.heap.size, 0, none⟩ = some (.slice a t.length c))
          ((first | exact K.out _ (Below.refl _ _).drew | exact K.out _ (Below.refl _ _) | exact ⟨hR, hR.tb.c0⟩ | exact ⟨hR.store hlt (by omega) _, (hR.store hlt (by omega) _).tb.c0⟩ | (trace_state; fail)))
          ((first
            | (go_at_call 21; have hs0 := And.left ‹USt w _ t a c R i ∧ _›; refine (HC.out _ hs0.b).mono ?_; rintro e y ⟨R2, hR2, rfl, hrow, hb9⟩; have hR := hs0.step hb9)
            | (go_at_call 20; have hs1 := And.left ‹USt w _ t a c R i ∧ _›; refine (HZ.out _ _ hs1.b hrow).mono ?_; rintro e z ⟨rfl, hb8⟩; have hR := hs1.step hb8; obtain ⟨v9, hr9⟩ := hR.row; have rc := hr9.c i hlt; have rz := hr9.fz i; have rl9 := hr9.lt)
            | (trace_state; fail)))
        all_goals
          have hB := Lib.hid (hR.b.setCell (p := ⟨R, i, none⟩) (by simp; omega) (.int .i64 (usgN t i : Nat)))
          have hT := Lib.hid (hR.tb.far (p := ⟨R, i, none⟩) (by simp; omega) (.int .i64 (usgN t i : Nat)))
          have hF := Lib.hid (hR.fb.far (p := ⟨R, i, none⟩) (by simp; omega) (.int .i64 (usgN t i : Nat)))
          have hW := Lib.hid ((hR.row.put hlt (.int .i64 (usgN t i : Nat))).ext fun j _ => upU_succ t i j)
          go_wp2
          go_roundg (t.length - (i + 1))
          case measure => exact Nat.lt_of_lt_of_le hm9 hg
          case rel => exact ⟨i + 1, by omega, by omega, by go_num, hB.out, hT.out, hW.out, hF.out⟩
      · obtain rfl : i = t.length := by omega
        obtain ⟨l9, a0, a1, f0, f1⟩ := F3.out
        go_wp2
        exact bodyPost_ret (v := .tuple #[.slice (some ⟨R, 0, none⟩) t.length t.length, faultV 0 0]) (by simp [results, Try.results8, faultV, go_sem, a0, a1, l9]) rfl (.inr ⟨HQ.out, R, by omega, rfl, ((R3.out.far (by simp; omega) _).far (by simp; omega) _).ext (fun j hj => by unfold upU; rw [if_pos hj]), (B3.out.setCell (by simp) _).setCell (by simp) _⟩)
  · have hq1 : ((valT t).1 != 0) = true := by simpa using hq
    have hq2 : ((valT t).1 == 0) = false := by simpa using hq
    have HQ := Lib.hid hq
    clear h hq
    unfold faultV at C1
    generalize (valT t).1 = q at *
    generalize (valT t).2 = r at *
    go_enter Try.func8, Try.ntmps8
    go_wp2_with fail
    refine (C1.out _ B0.out).mono ?_
    rintro e W1 ⟨rfl, b1⟩
    have F1 := Lib.hid (F0.out.below b1 F0.out.lt)
    have B1 := Lib.hid (B0.out.trans (b1.mono B0.out.size))
    obtain ⟨l9, a0, a1, f0, f1⟩ := F1.out
    have hs1 := B1.out.size
    clear b1
    go_wp2
    go_region
    go_wp2
    exact bodyPost_ret (v := .tuple #[.slice none 0 0, faultV q r]) (by simp [results, Try.results8, faultV, go_sem, a0, a1, l9]) rfl (.inl ⟨HQ.out, rfl, by repeat (first | exact B1.out | refine Below.setCell ?_ (by first | omega | (simp; done) | (simp; omega)) _ | refine Below.alloc ?_ (by first | omega | (simp; done) | (simp; omega)) _ | refine Below.drew ?_)⟩)

end Go.Proofs.Ytndhhofidkaomaa

/- The reference's ValidateFile: the first error of a tree, of a file's number in it and of a size. Conditions: the tree's cells lie in memory as they read. -/

set_option linter.all false
namespace Go.Proofs.Ytndhhofidkaomaa
open Go.RowKit

set_option maxRecDepth 100000 in
set_option maxHeartbeats 3200000 in
theorem refFile_any (a : Option Addr) (c : Nat) (t : Tr) (n size : Int) (w : World) (h : Nods w w.heap.size a c t) :
    Calls Try.prog 12 #[.agg #[.slice a t.length c], .int .i64 n, .int .i64 size] w fun e w' => e = .returned (faultV (fileF t n size).1 (fileF t n size).2) ∧ Below w.heap.size w w' := by
  have C1 := Lib.hid (fun W (hb : Below w.heap.size w W) => vtree_any a c t W (h.up hb))
  have T0 := Lib.hid (show One ((w.alloc (.cells #[.slice a t.length c] 24)).alloc (.cells #[.int .i64 0, .int .i64 0] 27)) w.heap.size (.slice a t.length c) from (One.new w _ _).alloc _)
  have F0 := Lib.hid (show FBox ((w.alloc (.cells #[.slice a t.length c] 24)).alloc (.cells #[.int .i64 0, .int .i64 0] 27)) (w.heap.size + 1) 0 0 from (FBox.new (w.alloc _) 0 0 _).at_ (by simp))
  have B0 := Lib.hid (show Below w.heap.size w ((w.alloc (.cells #[.slice a t.length c] 24)).alloc (.cells #[.int .i64 0, .int .i64 0] 27)) from ((Below.refl _ _).alloc (Nat.le_refl _) _).alloc (by first | omega | (simp; done) | (simp; omega)) _)
  unfold faultV at C1
  by_cases hq : (valT t).1 = 0
  · have hz := valT_zero hq
    have e : fileF t n size = if n < 0 ∨ (t.length : Int) ≤ n ∨ size < 0 ∨ 200 < size then (3, -1) else if (nod t n.toNat).k ≠ 2 then (8, -1) else (0, 0) := by
      unfold fileF; rw [if_neg (by simpa using hq)]
    rw [hz] at C1
    by_cases h1 : n < 0 ∨ (t.length : Int) ≤ n ∨ size < 0 ∨ 200 < size
    · rw [if_pos h1] at e
      have E := Lib.hid e
      clear e hz hq h
      have key : (decide (n < 0) = true) ∨ (decide (n < 0) = false ∧ decide ((t.length : Int) ≤ n) = true) ∨ (decide (n < 0) = false ∧ decide ((t.length : Int) ≤ n) = false ∧ decide (size < 0) = true) ∨ (decide (n < 0) = false ∧ decide ((t.length : Int) ≤ n) = false ∧ decide (size < 0) = false ∧ decide (200 < size) = true) := by
        simp only [decide_eq_true_eq, decide_eq_false_iff_not]
        omega
      clear h1
      rcases key with k1 | ⟨k1, k2⟩ | ⟨k1, k2, k3⟩ | ⟨k1, k2, k3, k4⟩
      all_goals
        go_enter Try.func12, Try.ntmps12
        go_wp2_with fail
        refine (C1.out _ B0.out).mono ?_
        rintro e W1 ⟨rfl, b1⟩
        have F1 := Lib.hid ((F0.out.below b1 F0.out.lt).alloc (.cells #[.int .i64 0, .int .i64 0] 27))
        have B1 := Lib.hid ((B0.out.trans (b1.mono B0.out.size)).alloc (by have := B0.out.size; have := b1.size; omega) (.cells #[.int .i64 0, .int .i64 0] 27))
        have T1 := Lib.hid ((T0.out.below b1 T0.out.lt).alloc (.cells #[.int .i64 0, .int .i64 0] 27))
        have G1 := Lib.hid (FBox.new W1 0 0 27)
        have tc := T1.out.c0
        have tl := T1.out.lt
        have hwf : w.heap.size + 1 < W1.heap.size := (F0.out.below b1 F0.out.lt).lt
        have FW1 := Lib.hid (F0.out.below b1 F0.out.lt)
        have BW1 := Lib.hid (B0.out.trans (b1.mono B0.out.size))
        clear b1
        go_wp2_with fail
        refine (newFault_any _ _ _).mono ?_
        rintro e W2 ⟨rfl, b2⟩
        have F2 := Lib.hid ((F1.out.below b2 F1.out.lt))
        have B2 := Lib.hid (B1.out.trans (b2.mono B1.out.size))
        have T2 := Lib.hid (T1.out.below b2 T1.out.lt)
        have G2 := Lib.hid (G1.out.below b2 G1.out.lt)
        obtain ⟨l9, a0, a1, f0, f1⟩ := F2.out
        obtain ⟨l8, g0, g1, e0, e1⟩ := G2.out
        have t2 := T2.out.c0
        have t3 := T2.out.lt
        have hs1 := B2.out.size
        clear b2 tc tl
        go_wp2
        exact bodyPost_ret (v := faultV 3 (-1)) (by simp [results, Try.results12, faultV, go_sem, a0, a1, l9]) rfl ⟨by rw [E.out], by repeat (first | exact B2.out | refine Below.setCell ?_ (by first | omega | (simp; done) | (simp; omega)) _ | refine Below.alloc ?_ (by first | omega | (simp; done) | (simp; omega)) _ | refine Below.drew ?_)⟩
    · rw [if_neg h1] at e
      obtain ⟨m, rfl⟩ := Int.eq_ofNat_of_zero_le (show 0 ≤ n by omega)
      have hm : m < t.length := by omega
      have k1 : decide ((m : Int) < 0) = false := decide_eq_false (by omega)
      have k2 : decide ((t.length : Int) ≤ (m : Int)) = false := decide_eq_false (by omega)
      have k3 : decide (size < 0) = false := decide_eq_false (by omega)
      have k4 : decide (200 < size) = false := decide_eq_false (by omega)
      have mlz : (m : Int) < (t.length : Int) := by omega
      have mz : (0 : Int) ≤ (m : Int) := Int.natCast_nonneg _
      rw [Int.toNat_natCast] at e
      obtain ⟨b, o, ve, vd, va, vx, rfl, hb, hc, hs⟩ := h.one hm
      have c0 := hc.c0
      clear hc hs h hz hq h1
      generalize (nod t m).k = gk at *
      by_cases h2 : gk = 2
      · subst h2
        rw [if_neg (by simp)] at e
        have E := Lib.hid e
        clear e
        go_enter Try.func12, Try.ntmps12
        go_wp2_with fail
        refine (C1.out _ B0.out).mono ?_
        rintro e W1 ⟨rfl, b1⟩
        have F1 := Lib.hid ((F0.out.below b1 F0.out.lt).alloc (.cells #[.int .i64 0, .int .i64 0] 27))
        have B1 := Lib.hid ((B0.out.trans (b1.mono B0.out.size)).alloc (by have := B0.out.size; have := b1.size; omega) (.cells #[.int .i64 0, .int .i64 0] 27))
        have T1 := Lib.hid ((T0.out.below b1 T0.out.lt).alloc (.cells #[.int .i64 0, .int .i64 0] 27))
        have G1 := Lib.hid (FBox.new W1 0 0 27)
        have tc := T1.out.c0
        have tl := T1.out.lt
        have hwf : w.heap.size + 1 < W1.heap.size := (F0.out.below b1 F0.out.lt).lt
        have FW1 := Lib.hid (F0.out.below b1 F0.out.lt)
        have BW1 := Lib.hid (B0.out.trans (b1.mono B0.out.size))
        clear b1
        have d0 := (B1.out.cell (p := ⟨b, o + m * 8, none⟩) hb).trans c0
        have hbl : b < (W1.alloc (.cells #[.int .i64 0, .int .i64 0] 27)).heap.size := Nat.lt_of_lt_of_le hb B1.out.size
        simp only [World.size_alloc] at hbl
        obtain ⟨l9, a0, a1, f0, f1⟩ := FW1.out
        obtain ⟨l8, g0, g1, e0, e1⟩ := G1.out
        have hs1 := B1.out.size
        go_wp2
        exact bodyPost_ret (v := faultV 0 0) (by simp [results, Try.results12, faultV, go_sem, a0, a1, l9]) rfl ⟨by rw [E.out], by repeat (first | exact BW1.out | refine Below.setCell ?_ (by first | omega | (simp; done) | (simp; omega)) _ | refine Below.alloc ?_ (by first | omega | (simp; done) | (simp; omega)) _ | refine Below.drew ?_)⟩
      · rw [if_pos h2] at e
        have E := Lib.hid e
        have h2b : (gk != 2) = true := by simpa using h2
        clear e h2
        go_enter Try.func12, Try.ntmps12
        go_wp2_with fail
        refine (C1.out _ B0.out).mono ?_
        rintro e W1 ⟨rfl, b1⟩
        have F1 := Lib.hid ((F0.out.below b1 F0.out.lt).alloc (.cells #[.int .i64 0, .int .i64 0] 27))
        have B1 := Lib.hid ((B0.out.trans (b1.mono B0.out.size)).alloc (by have := B0.out.size; have := b1.size; omega) (.cells #[.int .i64 0, .int .i64 0] 27))
        have T1 := Lib.hid ((T0.out.below b1 T0.out.lt).alloc (.cells #[.int .i64 0, .int .i64 0] 27))
        have G1 := Lib.hid (FBox.new W1 0 0 27)
        have tc := T1.out.c0
        have tl := T1.out.lt
        have hwf : w.heap.size + 1 < W1.heap.size := (F0.out.below b1 F0.out.lt).lt
        have FW1 := Lib.hid (F0.out.below b1 F0.out.lt)
        have BW1 := Lib.hid (B0.out.trans (b1.mono B0.out.size))
        clear b1
        have d0 := (B1.out.cell (p := ⟨b, o + m * 8, none⟩) hb).trans c0
        have hbl : b < (W1.alloc (.cells #[.int .i64 0, .int .i64 0] 27)).heap.size := Nat.lt_of_lt_of_le hb B1.out.size
        simp only [World.size_alloc] at hbl
        go_wp2_with fail
        refine (newFault_any _ _ _).mono ?_
        rintro e W2 ⟨rfl, b2⟩
        have F2 := Lib.hid ((F1.out.below b2 F1.out.lt))
        have B2 := Lib.hid (B1.out.trans (b2.mono B1.out.size))
        have T2 := Lib.hid (T1.out.below b2 T1.out.lt)
        have G2 := Lib.hid (G1.out.below b2 G1.out.lt)
        obtain ⟨l9, a0, a1, f0, f1⟩ := F2.out
        obtain ⟨l8, g0, g1, e0, e1⟩ := G2.out
        have t2 := T2.out.c0
        have t3 := T2.out.lt
        have hs1 := B2.out.size
        clear b2 tc tl
        go_wp2
        exact bodyPost_ret (v := faultV 8 (-1)) (by simp [results, Try.results12, faultV, go_sem, a0, a1, l9]) rfl ⟨by rw [E.out], by repeat (first | exact B2.out | refine Below.setCell ?_ (by first | omega | (simp; done) | (simp; omega)) _ | refine Below.alloc ?_ (by first | omega | (simp; done) | (simp; omega)) _ | refine Below.drew ?_)⟩
  · have e : fileF t n size = valT t := by unfold fileF; rw [if_pos hq]
    have hq1 : ((valT t).1 != 0) = true := by simpa using hq
    have hq2 : ((valT t).1 == 0) = false := by simpa using hq
    have E := Lib.hid e
    clear h hq e
    generalize valT t = v at *
    obtain ⟨q, r⟩ := v
    simp only at *
    go_enter Try.func12, Try.ntmps12
    go_wp2_with fail
    refine (C1.out _ B0.out).mono ?_
    rintro e W1 ⟨rfl, b1⟩
    have F1 := Lib.hid ((F0.out.below b1 F0.out.lt).alloc (.cells #[.int .i64 q, .int .i64 r] 27))
    have B1 := Lib.hid ((B0.out.trans (b1.mono B0.out.size)).alloc (by have := B0.out.size; have := b1.size; omega) (.cells #[.int .i64 q, .int .i64 r] 27))
    have T1 := Lib.hid ((T0.out.below b1 T0.out.lt).alloc (.cells #[.int .i64 q, .int .i64 r] 27))
    have G1 := Lib.hid (FBox.new W1 q r 27)
    have tc := T1.out.c0
    have tl := T1.out.lt
    have hwf : w.heap.size + 1 < W1.heap.size := (F0.out.below b1 F0.out.lt).lt
    have FW1 := Lib.hid (F0.out.below b1 F0.out.lt)
    have BW1 := Lib.hid (B0.out.trans (b1.mono B0.out.size))
    clear b1
    obtain ⟨l9, a0, a1, f0, f1⟩ := FW1.out
    obtain ⟨l8, g0, g1, e0, e1⟩ := G1.out
    have hs1 := B1.out.size
    go_wp2
    exact bodyPost_ret (v := faultV q r) (by simp [results, Try.results12, faultV, go_sem, a0, a1, l9]) rfl ⟨by rw [E.out], by repeat (first | exact BW1.out | refine Below.setCell ?_ (by first | omega | (simp; done) | (simp; omega)) _ | refine Below.alloc ?_ (by first | omega | (simp; done) | (simp; omega)) _ | refine Below.drew ?_)⟩

end Go.Proofs.Ytndhhofidkaomaa

/- Package quota's visitQuotas at any function that it visits with: every directory above a file that has a quota is visited, in increasing order, with the room that it has. Conditions: the tree is valid; the visit leaves all but its own blocks alone; the tree's cells lie in memory as they read. -/

set_option linter.all false
namespace Go.Proofs.Ytndhhofidkaomaa
open Go.RowKit

/-- Directory i has a quota and lies above the file. -/
def qOn (t : Tr) (file i : Nat) : Bool := decide ((nod t i).q ≠ 0) && hasL (visits t i) file
/-- The room that it has. -/
def room (t : Tr) (i : Nat) : Int := (nod t i).q - (usgN t i : Nat)
/-- The visits of the first k inodes. -/
def qL (t : Tr) (file : Nat) : Nat → List (Nat × Int)
  | 0 => []
  | k + 1 => if qOn t file k = true then qL t file k ++ [(k, room t k)] else qL t file k
theorem qL_mem {t : Tr} {file : Nat} : ∀ {k : Nat} {p : Nat × Int}, p ∈ qL t file k ↔ p.1 < k ∧ qOn t file p.1 = true ∧ p.2 = room t p.1
  | 0, p => by simp [qL]
  | k + 1, p => by
    unfold qL
    by_cases h : qOn t file k = true
    · rw [if_pos h, List.mem_append, qL_mem, List.mem_singleton]
      constructor
      · rintro (⟨h1, h2, h3⟩ | rfl)
        · exact ⟨by omega, h2, h3⟩
        · exact ⟨by simp, h, rfl⟩
      · rintro ⟨h1, h2, h3⟩
        by_cases e : p.1 = k
        · exact .inr (by obtain ⟨p1, p2⟩ := p; simp only at e h3; subst e; rw [h3])
        · exact .inl ⟨by omega, h2, h3⟩
    · rw [if_neg h, qL_mem]
      constructor
      · rintro ⟨h1, h2, h3⟩; exact ⟨by omega, h2, h3⟩
      · rintro ⟨h1, h2, h3⟩
        have : p.1 ≠ k := fun e => h (by rw [← e]; exact h2)
        exact ⟨by omega, h2, h3⟩
theorem qL_len (t : Tr) (file : Nat) : ∀ k, (qL t file k).length ≤ k
  | 0 => by simp [qL]
  | k + 1 => by
    have := qL_len t file k
    unfold qL
    split <;> simp <;> omega

/-- What is asked of the visit; S: the blocks that are the visitor's. -/
structure VisQ {σ : Type} (g : FuncId) (caps : Array Value) (H0 : Nat) (Inv : World → σ → (Nat → Prop) → Prop) (step : σ → Nat × Int → σ) (P : σ → Prop) : Prop where
  eg : ∀ args w, (callFunc g args).run Try.prog w = .ok (.enter g args) w
  inn : ∀ W s S, Inv W s S → ∀ b, S b → b < W.heap.size
  keep : ∀ W W' s S, Inv W s S → Below H0 W W' → (∀ b, S b → W'.heap[b]? = W.heap[b]?) → Inv W' s S
  call : ∀ W s S (n : Nat) (r : Int), H0 ≤ W.heap.size → Inv W s S → P s → n < 40 → -10000 ≤ r → r ≤ 200000 → Calls Try.prog g (#[.int .i64 (n : Int), .int .i64 r] ++ caps) W fun e W' => e = .returned (.tuple #[]) ∧ ∃ S', Inv W' (step s (n, r)) S' ∧ Kept S none W W' ∧ ∀ b, S' b → S b ∨ W.heap.size ≤ b

/-- What holds while the inodes are looked at. -/
structure VQ {σ : Type} (Inv : World → σ → (Nat → Prop) → Prop) (w wr : World) (Bt : Nat) (a : Option Addr) (n c : Nat) (S0 S : Nat → Prop) (s : σ) : Prop where
  inv : Inv wr s S
  low : ∀ b, S b → Bt ≤ b
  off : ¬ S w.heap.size
  tb : One wr w.heap.size (.slice a n c)
  kept : Kept S0 none w wr
  new : ∀ b, S b → S0 b ∨ w.heap.size ≤ b
theorem VQ.step {σ : Type} {g : FuncId} {caps : Array Value} {H0 : Nat} {Inv : World → σ → (Nat → Prop) → Prop} {stp : σ → Nat × Int → σ} {P : σ → Prop} (V : VisQ g caps H0 Inv stp P) {w wr z : World} {Bt : Nat} {a : Option Addr} {n c : Nat} {S0 S : Nat → Prop} {s : σ}
    (h : VQ Inv w wr Bt a n c S0 S s) (hb : Below wr.heap.size wr z) (hH : H0 ≤ wr.heap.size) : VQ Inv w z Bt a n c S0 S s :=
  ⟨V.keep wr z s S h.inv (hb.mono hH) (fun b hS => hb.block b (V.inn wr s S h.inv b hS)), h.low, h.off, h.tb.below hb h.tb.lt, h.kept.trans (Kept.of_below hb), h.new⟩

set_option maxRecDepth 100000 in
set_option maxHeartbeats 3200000 in
theorem visitQ_any {σ : Type} {g : FuncId} {caps : Array Value} {Inv : World → σ → (Nat → Prop) → Prop} {stp : σ → Nat × Int → σ} {P : σ → Prop} (a : Option Addr) (c : Nat) (t : Tr) (file Bt : Nat) (w : World) (V : VisQ g caps w.heap.size Inv stp P) (hd : Head t) (p3 : Pass t 3) (hf : file < t.length)
    (h : Nods w Bt a c t) (hBt : Bt ≤ w.heap.size) (s0 : σ) (S0 : Nat → Prop) (hI : Inv w s0 S0) (hS0 : ∀ b, S0 b → Bt ≤ b) (hP : ∀ k, k ≤ t.length → P ((qL t file k).foldl stp s0)) :
    Calls Try.prog 27 #[.agg #[.slice a t.length c], .int .i64 (file : Int), .func (.func g) #[] caps] w fun e w' => e = .returned (.tuple #[]) ∧ ∃ S', Inv w' ((qL t file t.length).foldl stp s0) S' ∧ Kept S0 none w w' ∧ ∀ b, S' b → S0 b ∨ w.heap.size ≤ b := by
  have H := Lib.hid h
  have H1 := Lib.hid (Pass.ok1 hd (p3.mono (by omega)))
  have h40 := H1.out.le
  have HRC := Lib.hid (fun n (hn : n < t.length) W (hb : Nods W W.heap.size a c t) => reached_any a c t n W H1.out (reach_ok hd p3 hn).1 (reach_ok hd p3 hn).2 hb)
  have HSZ := Lib.hid (fun n R W (hb : Nods W W.heap.size a c t) (hr : Row W R t.length (fun j => .bool (hasL (visits t n) j))) => (show Calls Try.prog 20 #[.agg #[.slice a t.length c], .slice (some ⟨R, 0, none⟩) t.length t.length] W fun e w' => e = .returned (.int .i64 (usgN t n : Nat)) ∧ Below W.heap.size W w' from sizeOf_any a c t (hasL (visits t n)) R t.length W H1.out hb hr))
  unfold ReachPost at HRC
  have eg := V.eg
  have VV := Lib.hid V
  have HP := Lib.hid hP
  have NDS := Lib.hid (fun W (k : Kept S0 none w W) => (show Nods W W.heap.size a c t from (H.out.below (k.below hBt hS0 (by simp))).more (Nat.le_trans hBt k.size)))
  have V0 := Lib.hid (show VQ Inv w (w.alloc (.cells #[.slice a t.length c] 24)) Bt a t.length c S0 S0 s0 from
    ⟨V.keep _ _ _ _ hI ((Below.refl w.heap.size w).alloc (Nat.le_refl _) _) (fun b hb => heap_alloc_old w _ (V.inn _ _ _ hI b hb)), hS0, fun hS => by have := V.inn _ _ _ hI _ hS; omega, One.new w _ _, Kept.of_below ((Below.refl w.heap.size w).alloc (Nat.le_refl _) _), fun b hb => .inl hb⟩)
  clear h hI V hS0 hP hd p3
  go_enter Try.func27, Try.ntmps27
  go_wp2_with fail
  go_loopg [6, 7, 8, 12] t.length (fun gg _ _ _ s12 wr => ∃ i : Nat, i ≤ t.length ∧ t.length - i ≤ gg ∧ s12 = .int .i64 i ∧ Aside (∃ S, VQ Inv w wr Bt a t.length c S0 S ((qL t file i).foldl stp s0)))
  case atStart => exact ⟨0, by omega, by omega, rfl, ⟨S0, V0.out⟩⟩
  case round =>
    obtain ⟨i, hi, hg, rfl, Q⟩ := hrel
    obtain ⟨S, X⟩ := Q.out
    have XX := Lib.hid X
    clear V0 Q X
    have hws := XX.out.kept.size
    by_cases hlt : i < t.length
    · have hltz : (i : Int) < (t.length : Int) := by omega
      have hi0 : (0 : Int) ≤ (i : Int) := Int.natCast_nonneg _
      have hfz : (file : Int) < (t.length : Int) := by omega
      have hf0 : (0 : Int) ≤ (file : Int) := Int.natCast_nonneg _
      have hm9 : t.length - (i + 1) < t.length - i := Nat.sub_lt_sub_left hlt (Nat.lt_succ_self i)
      obtain ⟨b, o, ve, vd, va, vx, rfl, hb, hc, hs⟩ := (NDS.out wr XX.out.kept).one hlt
      obtain ⟨ea, ec, rfl, _⟩ := hs.es
      obtain ⟨da, dc, rfl, _⟩ := hs.dl
      obtain ⟨aa, acp, rfl, _⟩ := hs.ac
      obtain ⟨xa, xc, rfl, _⟩ := hs.xs
      have h0 := hc.c0
      have h1 := hc.c1
      have h2 := hc.c2
      have h3 := hc.c3
      have h4 := hc.c4
      have h5 := hc.c5
      have h6 := hc.c6
      have h7 := hc.c7
      have t0 := XX.out.tb.c0
      have tl := XX.out.tb.lt
      have HQL := Lib.hid (show qL t file (i + 1) = if qOn t file i = true then qL t file i ++ [(i, room t i)] else qL t file i from rfl)
      have HQO := Lib.hid (show qOn t file i = (decide ((nod t i).q ≠ 0) && hasL (visits t i) file) from rfl)
      have HRO := Lib.hid (show room t i = (nod t i).q - (usgN t i : Nat) from rfl)
      have hq0 := (H1.out.fine i).q0
      have hq1 := (H1.out.fine i).q1
      have hul : usgN t i ≤ 8000 := usg_le H1.out (visits t i)
      clear hc hs
      generalize (nod t i).k = gk at *
      generalize (nod t i).o = go at *
      generalize (nod t i).dl = gd at *
      generalize (nod t i).es.length = ge at *
      generalize (nod t i).ac.length = ga at *
      generalize (nod t i).xs.length = gx at *
      generalize (nod t i).q = gq at *
      generalize (nod t i).v = gv at *
      have BA := Lib.hid ((Below.refl wr.heap.size wr).alloc (Nat.le_refl _) (.cells #[.int .i64 gk, .int .i64 go, .slice ea ge ec, .slice da gd dc, .slice aa ga acp, .slice xa gx xc, .int .i64 gq, .int .i64 gv] 47))
      by_cases hq : gq = 0
      · subst hq
        have HN := Lib.hid (show qL t file (i + 1) = qL t file i from by rw [HQL.out, HQO.out]; simp)
        have XE := Lib.hid (XX.out.step VV.out BA.out hws)
        clear HQL HQO HRO
        go_wp2_with fail
        go_roundg (t.length - (i + 1))
        case measure => exact Nat.lt_of_lt_of_le hm9 hg
        case rel => exact ⟨i + 1, by omega, by omega, by go_num, (show ∃ S, _ from ⟨S, by rw [HN.out]; exact XE.out⟩)⟩
      · have hqb : (gq == 0) = false := by simpa using hq
        have X1 := Lib.hid (XX.out.step VV.out BA.out hws)
        have u0 := X1.out.tb.c0
        go_wp2_with fail
        refine (HRC.out i hlt _ (NDS.out _ X1.out.kept)).mono ?_
        rintro e y1 ⟨R, hR, rfl, hrow, b1⟩
        have HROW := Lib.hid hrow
        have X2 := Lib.hid (X1.out.step VV.out b1 (by simp; omega))
        have r0 := hrow.c file hf
        have rl := hrow.lt
        have k6 : y1.cell? ⟨wr.heap.size, 6, none⟩ = some (.int .i64 gq) := (b1.cell (p := ⟨wr.heap.size, 6, none⟩) (by simp)).trans (by simp)
        have k6l : wr.heap.size < y1.heap.size := Nat.lt_of_lt_of_le (by simp) b1.size
        have tk := X2.out.tb.c0
        have tkl := X2.out.tb.lt
        have hws2 := X2.out.kept.size
        have hni : ¬ S wr.heap.size := fun hS => by have := VV.out.inn _ _ _ XX.out.inv _ hS; omega
        clear b1 hrow X1 BA u0 t0 tl
        cases hx : hasL (visits t i) file with
        | false =>
          rw [hx] at r0
          have HN := Lib.hid (show qL t file (i + 1) = qL t file i from by rw [HQL.out, HQO.out, hx]; simp)
          clear HQL HQO HRO hx
          go_wp2_with fail
          go_roundg (t.length - (i + 1))
          case measure => exact Nat.lt_of_lt_of_le hm9 hg
          case rel => exact ⟨i + 1, by omega, by omega, by go_num, (show ∃ S, _ from ⟨S, by rw [HN.out]; exact X2.out⟩)⟩
        | true =>
          rw [hx] at r0
          have HN := Lib.hid (show qL t file (i + 1) = qL t file i ++ [(i, gq - (usgN t i : Nat))] from by rw [HQL.out, HQO.out, hx, if_pos (by simpa using hq), HRO.out])
          clear HQL HQO HRO hx
          have HZ := Lib.hid (HSZ.out i)
          generalize usgN t i = u at *
          have hwr : IntKind.i64.wrap (gq - (u : Int)) = gq - (u : Int) := IntWalk.i64_in _ (by omega)
          go_wp2_with fail
          go_region_held3 (fun y => y.cell? ⟨wr.heap.size, 6, none⟩ = some (.int .i64 gq) ∧ y.cell? ⟨w.heap.size, 0, none⟩ = some (.slice (some ⟨b, o, none⟩) t.length c))
            ((first | exact ⟨k6, tk⟩ | exact ⟨k6z, tkz⟩ | exact ⟨k6v, tkv⟩ | (trace_state; fail)))
            ((first
              | (go_at_call 20; refine (HZ.out R _ (NDS.out _ (X2.out.step VV.out (Below.refl _ _).drew hws2).kept) (HROW.out.below (Below.refl _ _).drew rl)).mono ?_; rintro e z ⟨rfl, hb8⟩; have hB8 := (Below.refl y1.heap.size y1).drew.trans hb8; have XZ := X2.out.step VV.out hB8 hws2; have tkz := XZ.tb.c0; have k6z := (hB8.cell (p := ⟨wr.heap.size, 6, none⟩) k6l).trans k6)
              | (go_at_fn g; refine (VV.out.call z _ S i (gq - (u : Int)) (Nat.le_trans hws2 hB8.size) XZ.inv (HP.out i hi) (by omega) (by omega) (by omega)).mono ?_; rintro e v ⟨rfl, S', iv, kv, nv⟩; have k6v : v.cell? ⟨wr.heap.size, 6, none⟩ = some (.int .i64 gq) := (World.cell?_of_block (a := ⟨wr.heap.size, 6, none⟩) (kv.block _ (Nat.lt_of_lt_of_le k6l hB8.size) hni (by simp))).trans k6z; have tbv := XZ.tb.kept kv XZ.off (by simp); have tkv := tbv.c0)
              | (trace_state; fail)))
          all_goals
            have XF : VQ Inv w v Bt (some ⟨b, o, none⟩) t.length c S0 S' ((qL t file (i + 1)).foldl stp s0) := by
              refine ⟨by rw [HN.out, List.foldl_append]; exact iv, fun x hx => ?_, fun hx => ?_, tbv, ?_, fun x hx => ?_⟩
              · rcases nv x hx with h9 | h9
                · exact XZ.low x h9
                · have := hB8.size; omega
              · rcases nv _ hx with h9 | h9
                · exact XZ.off h9
                · have := hB8.size; omega
              · exact ⟨kv.os.trans XZ.kept.os, kv.tape.trans XZ.kept.tape, kv.output.trans XZ.kept.output, Nat.le_trans XZ.kept.size kv.size, fun x hx hS hr => (kv.block x (Nat.lt_of_lt_of_le hx XZ.kept.size) (fun h9 => by
                  rcases XZ.new x h9 with h8 | h8
                  · exact hS h8
                  · omega) (by simp)).trans (XZ.kept.block x hx hS hr)⟩
              · rcases nv x hx with h9 | h9
                · exact XZ.new x h9
                · have := hB8.size; exact .inr (by omega)
            have XFF := Lib.hid XF
            clear XF iv kv nv tbv
            go_wp2
            go_roundg (t.length - (i + 1))
            case measure => exact Nat.lt_of_lt_of_le hm9 hg
            case rel => exact ⟨i + 1, by omega, by omega, by go_num, (show ∃ S, _ from ⟨S', XFF.out⟩)⟩
    · obtain rfl : i = t.length := by omega
      have t0 := XX.out.tb.c0
      have tl := XX.out.tb.lt
      go_wp2
      go_end0
      exact ⟨rfl, S, XX.out.inv, XX.out.kept, XX.out.new⟩

end Go.Proofs.Ytndhhofidkaomaa
