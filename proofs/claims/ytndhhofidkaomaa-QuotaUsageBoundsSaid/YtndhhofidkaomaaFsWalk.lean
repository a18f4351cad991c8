/- walk of package fstree, at any function that it visits with: every place below the start is visited, in depth-first order. Conditions: all walks from the start end; the visit leaves all but its own blocks alone. -/
import Derived.Test.YtndhhofidkaomaaFsFrame
import Derived.Test.YtndhhofidkaomaaFsEnts

set_option linter.all false
namespace Go.Proofs.Ytndhhofidkaomaa
open Go.RowKit

/-- What is asked of the visit. -/
structure Visitor {σ : Type} (t : Tr) (s0 : Nat) (g : FuncId) (caps : Array Value) (S : Nat → Prop) (H0 : Nat) (Inv : World → σ → Prop) (step : σ → Vis → σ) : Prop where
  eg : ∀ args w, (callFunc g args).run Try.prog w = .ok (.enter g args) w
  low : ∀ b, S b → b < H0
  keep : ∀ W W' s, Inv W s → Below H0 W W' → Inv W' s
  call : ∀ W s xs n v, H0 ≤ W.heap.size → Inv W s → Rch t s0 xs n → Strs W W.heap.size v xs → (∀ q, v.ownBlock = some q → H0 ≤ q) → Calls Try.prog g (#[v, .int .i64 (n : Int)] ++ caps) W fun e W' => e = .returned (.tuple #[]) ∧ Inv W' (step s (xs, n)) ∧ Kept S none W W'

/-- The three variables that follow captures, and the tree. -/
structure Env (W : World) (g : FuncId) (caps : Array Value) (pt pv pf Bt : Nat) (a : Option Addr) (c : Nat) (t : Tr) : Prop where
  tb : One W pt (.slice a t.length c)
  vb : One W pv (.func (.func g) #[] caps)
  fb : One W pf (.func (.func 59) #[] #[.pointer (some ⟨pv, 0, none⟩), .pointer (some ⟨pt, 0, none⟩), .pointer (some ⟨pf, 0, none⟩)])
  nd : Nods W Bt a c t
/-- Where these lie. -/
structure Lay (S : Nat → Prop) (H0 pt pv pf Bt base : Nat) : Prop where
  bt : Bt ≤ H0
  sb : ∀ b, S b → Bt ≤ b
  sh : ∀ b, S b → b < H0
  t0 : H0 ≤ pt
  v0 : H0 ≤ pv
  f0 : H0 ≤ pf
  t1 : pt < base
  v1 : pv < base
  f1 : pf < base
theorem Env.kept {W W' : World} {g : FuncId} {caps : Array Value} {pt pv pf Bt : Nat} {a : Option Addr} {c : Nat} {t : Tr} {S : Nat → Prop} {row : Option Nat} {H0 base : Nat} (E : Env W g caps pt pv pf Bt a c t) (k : Kept S row W W') (L : Lay S H0 pt pv pf Bt base) (hr : ∀ q, row = some q → base ≤ q) : Env W' g caps pt pv pf Bt a c t := by
  have nS : ∀ p, H0 ≤ p → ¬ S p := fun p hp hs => by have := L.sh p hs; omega
  have nR : ∀ p, p < base → some p ≠ row := fun p hp e => by have := hr p e.symm; omega
  have hB : Bt ≤ W.heap.size := by have := E.tb.lt; have := L.t0; have := L.bt; omega
  exact ⟨E.tb.kept k (nS _ L.t0) (nR _ L.t1), E.vb.kept k (nS _ L.v0) (nR _ L.v1), E.fb.kept k (nS _ L.f0) (nR _ L.f1),
    E.nd.below (k.below hB L.sb (fun q hq => by have := hr q hq; have := L.t0; have := L.t1; have := L.bt; omega))⟩

/-- What a walk of a place below has done. -/
structure Went {σ : Type} (S : Nat → Prop) (Inv : World → σ → Prop) (base : Nat) (v : Value) (xs : List ByteArray) (s' : σ) (W W' : World) : Prop where
  inv : Inv W' s'
  kept : Kept S v.ownBlock W W'
  own : W'.ownsRow base 9 1 v xs.length (xs.map Value.string)

def fin_ {σ : Type} (step : σ → Vis → σ) (t : Tr) (xs : List ByteArray) (n : Nat) (s : σ) : σ := (sub t xs n).foldl step s
/-- The state ahead of entry number k. -/
def mid_ {σ : Type} (step : σ → Vis → σ) (t : Tr) (xs : List ByteArray) (es : List DE) (s : σ) (k : Nat) : σ := ((es.take k).flatMap fun e => sub t (xs ++ [e.n]) e.i.toNat).foldl step s
theorem mid_zero {σ : Type} (step : σ → Vis → σ) (t : Tr) (xs : List ByteArray) (es : List DE) (s : σ) : mid_ step t xs es s 0 = s := by unfold mid_; simp
theorem mid_succ {σ : Type} (step : σ → Vis → σ) (t : Tr) (xs : List ByteArray) (es : List DE) (s : σ) {k : Nat} (h : k < es.length) : mid_ step t xs es s (k + 1) = fin_ step t (xs ++ [(es.getD k D0).n]) (es.getD k D0).i.toNat (mid_ step t xs es s k) := by
  unfold mid_ fin_
  rw [List.take_succ_eq_append_getElem h, List.flatMap_append, List.foldl_append, deD h]
  simp
theorem mid_end {σ : Type} (step : σ → Vis → σ) {t : Tr} {s0 : Nat} (hf : Fin t s0) {xs : List ByteArray} {n : Nat} (hr : Rch t s0 xs n) (s : σ) : mid_ step t xs (kids t n) (step s (xs, n)) (kids t n).length = fin_ step t xs n s := by
  unfold mid_ fin_
  rw [sub_eq hf hr, List.take_length, List.foldl_cons]

theorem DB.kept {S : Nat → Prop} {row : Option Nat} {a b : World} {n : Nat} {x : ByteArray} {i : Int} (h : DB a n x i) (k : Kept S row a b) (hS : ¬ S n) (hr : some n ≠ row) : DB b n x i := by
  have hb := k.block n h.lt hS hr
  exact ⟨Nat.lt_of_lt_of_le h.lt k.size, (World.cell?_of_block (a := ⟨n, 0, none⟩) hb).trans h.c0, (World.cell?_of_block (a := ⟨n, 1, none⟩) hb).trans h.c1⟩
theorem DB.drew {w : World} {n : Nat} {x : ByteArray} {i : Int} (h : DB w n x i) : DB w.drew n x i := ⟨h.lt, h.c0, h.c1⟩
/-- The caller's row behind the walk of one child. -/
theorem own_after {y y1 y2 : World} {wr : World} {S : Nat → Prop} {base n g1 cap1 : Nat} {v : Value} {xs : List Value} {x : ByteArray} (hO : wr.ownsRow base 9 1 v n xs) (hy : Below wr.heap.size wr y) (P : Put1 y y1 base v n xs x g1 cap1)
    (hS : ∀ b, S b → b < base) (K : Kept S (some g1) y1 y2) (O : y2.ownsRow base 9 1 (.slice (some ⟨g1, 0, none⟩) (n + 1) cap1) (n + 1) (xs ++ [.string x])) : y2.ownsRow base 9 1 v n xs := by
  have hx : xs.length = n * 1 := hO.1
  rcases P.at_ with rfl | ⟨hg, hgr⟩
  · exact ownsRow_pop hx O
  · refine own_block hO fun q hq hl => ?_
    have h1 := own_low hO q hq
    have h2 : q < y.heap.size := Nat.lt_of_lt_of_le hl hy.size
    rw [K.block q (Nat.lt_of_lt_of_le h2 hgr.size) (fun hs => by have := hS q hs; omega) (fun e => by injection e with e; omega), hgr.block q h2 (by simp), hy.block q hl]

set_option maxRecDepth 100000 in
set_option maxHeartbeats 4000000 in
theorem follow_any {σ : Type} {t : Tr} {s0 : Nat} {g : FuncId} {caps : Array Value} {S : Nat → Prop} {H0 : Nat} {Inv : World → σ → Prop} {step : σ → Vis → σ} (V : Visitor t s0 g caps S H0 Inv step)
    (h1 : Ok1 t) (fr : From t s0) {pt pv pf Bt base : Nat} (L : Lay S H0 pt pv pf Bt base) (a : Option Addr) (c : Nat) :
    ∀ xs n, Rch t s0 xs n → ∀ (W : World) (s : σ) (v : Value), Env W g caps pt pv pf Bt a c t → base ≤ W.heap.size → Inv W s → W.ownsRow base 9 1 v xs.length (xs.map Value.string) →
      Calls Try.prog 59 #[v, .int .i64 (n : Int), .pointer (some ⟨pv, 0, none⟩), .pointer (some ⟨pt, 0, none⟩), .pointer (some ⟨pf, 0, none⟩)] W fun e W' => e = .returned (.tuple #[]) ∧ Went S Inv base v xs (fin_ step t xs n s) W W' := by
  refine sub_ind fr.fin _ fun xs n hr ih => ?_
  intro W s v E hW hI hO
  obtain ⟨hn, _, hvn⟩ := h1.rch hr fr.lt fr.used
  have hxl : xs.length ≤ 40 := Nat.le_trans (fr.fin _ _ hr) h1.le
  have hxm : ∀ x ∈ xs, x.size ≤ maxLen := fun x hx => by have := (vname_size (hvn x hx)).2; unfold maxLen; omega
  have hHW : H0 ≤ W.heap.size := by have := L.t0; have := L.t1; omega
  have HC := Lib.hid (V.call W s xs n v hHW hI hr (strs_row hO hxm (by omega)) (fun q hq => by have := own_low hO q hq; have := L.t0; have := L.t1; omega))
  have eg := V.eg
  obtain ⟨b, o, ve, vd, va, vx, rfl, hb, hc, hs⟩ := E.nd.one hn
  obtain ⟨ea, ec, rfl, hec, hel, hef, hex⟩ := hs.es
  have hc2 := hc.c2
  change W.cell? ⟨b, o + n * 8 + 2, none⟩ = some (.slice ea (kids t n).length ec) at hc2
  change (kids t n).length ≤ ec at hec
  change (kids t n).length ≤ 35184372088832 at hel
  have HEX := Lib.hid (show 0 < (kids t n).length → ∃ b o, ea = some ⟨b, o, none⟩ ∧ b < Bt ∧ ∀ j, j < (kids t n).length →
      W.cell? ⟨b, o + j * 2, none⟩ = some (.string ((kids t n).getD j D0).n) ∧ W.cell? ⟨b, o + j * 2 + 1, none⟩ = some (.int .i64 ((kids t n).getD j D0).i) from hex)
  have HME := Lib.hid (mid_end step fr.fin hr s)
  have HKD := Lib.hid (fun k (hk : k < (kids t n).length) => (show (kids t n).getD k D0 ∈ kids t n from by rw [deD hk]; exact List.getElem_mem hk))
  have HIH := Lib.hid ih
  have HK := Lib.hid (fun e (he : e ∈ kids t n) => h1.kid he)
  have HRS := Lib.hid (fun e (he : e ∈ kids t n) => Rch.snoc hr he)
  have hcl := hc.c2
  clear hex hs hc hef hcl ih hxm hvn hr
  have HMS := Lib.hid (fun k (hk : k < (kids t n).length) => mid_succ step t xs (kids t n) (step s (xs, n)) hk)
  have HMZ := Lib.hid (mid_zero step t xs (kids t n) (step s (xs, n)))
  have nlz : (n : Int) < (t.length : Int) := by omega
  have nz : (0 : Int) ≤ (n : Int) := Int.natCast_nonneg _
  have vc := E.vb.c0
  have EE := Lib.hid E
  have OO := Lib.hid hO
  have LL := Lib.hid L
  have hrow := own_low hO
  have HRW := Lib.hid hrow
  have hbW : Bt ≤ W.heap.size := by have := L.bt; omega
  clear E hO L hrow hI
  generalize kids t n = es at *
  generalize hm : es.length = m at *
  go_enter Try.func59, Try.ntmps59
  go_wp2_with (go_at_fn g; refine HC.out.mono ?_; rintro e W1 ⟨rfl, I1, K1⟩; have E1 := EE.out.kept K1 LL.out (by simp); have hB1 : Below Bt W W1 := K1.below hbW LL.out.sb (by simp); have tc1 := E1.tb.c0; have ec1 := (hB1.cell (p := ⟨b, o + n * 8 + 2, none⟩) hb).trans hc2; have tl1 := E1.tb.lt)
  have KW1 : Kept S v.ownBlock W W1 := ⟨K1.os, K1.tape, K1.output, K1.size, fun k hk hS _ => K1.block k hk hS (by simp)⟩
  have O1 := Lib.hid (own_block OO.out (fun q hq hl => K1.block q hl (fun hs => by have := LL.out.sh q hs; have := HRW.out q hq; have := LL.out.t0; have := LL.out.t1; omega) (by simp)))
  have EK1 := Lib.hid E1
  have KK1 := Lib.hid KW1
  have II1 := Lib.hid I1
  clear I1 K1 E1 KW1 hB1 tc1 ec1 tl1 HC
  go_loopg [8, 20] m (fun gg _ s20 wr => ∃ k : Nat, k ≤ m ∧ m - k ≤ gg ∧ s20 = .int .i64 k ∧ Aside (Env wr g caps pt pv pf Bt (some ⟨b, o, none⟩) c t) ∧ Aside (Went S Inv base v xs (mid_ step t xs es (step s (xs, n)) k) W wr))
  case atStart => exact ⟨0, by omega, by omega, rfl, EK1.out, (show Went S Inv base v xs _ W W1 from ⟨by rw [HMZ.out]; exact II1.out, KK1.out, O1.out⟩)⟩
  case round =>
    obtain ⟨k, hk, hg, rfl, Er, Gr⟩ := hrel
    clear EK1 KK1 II1 O1
    by_cases hlt : k < m
    · have hltz : (k : Int) < (m : Int) := by omega
      obtain ⟨be, oe, rfl, hbe, hje⟩ := HEX.out (by omega)
      have hBr : Below Bt W wr := Gr.out.kept.below hbW LL.out.sb (fun q hq => by have := HRW.out q hq; have := LL.out.t0; have := LL.out.t1; have := LL.out.bt; omega)
      have g0 := (hBr.cell (p := ⟨be, oe + k * 2, none⟩) hbe).trans (hje k hlt).1
      have g1 := (hBr.cell (p := ⟨be, oe + k * 2 + 1, none⟩) hbe).trans (hje k hlt).2
      have HKE := Lib.hid (HKD.out k hlt)
      have HMK := Lib.hid (HMS.out k hlt)
      have HRc := Lib.hid (HRS.out _ HKE.out)
      have HIc := Lib.hid (HIH.out _ HKE.out)
      obtain ⟨q1, q2, q3, _, _⟩ := HK.out _ HKE.out
      clear hje hBr
      generalize es.getD k D0 = e at *
      obtain ⟨x, i⟩ := e
      simp only at g0 g1 HMK HRc HIc q1 q2 q3
      obtain ⟨n2, rfl⟩ := Int.eq_ofNat_of_zero_le (Int.le_of_lt q2)
      simp only [Int.toNat_natCast] at HMK HRc HIc q3
      have fl := Er.out.fb.lt
      have fc := Er.out.fb.c0
      have hwb : base ≤ wr.heap.size := Nat.le_trans hW Gr.out.kept.size
      have hs9 := hwb
      have hH : H0 ≤ wr.heap.size := by have := LL.out.t0; have := LL.out.t1; omega
      have hSw : ¬ S wr.heap.size := fun hs => by have := LL.out.sh _ hs; omega
      have hRw : some wr.heap.size ≠ v.ownBlock := fun e => by have := own_in Gr.out.own _ e.symm; omega
      go_wp2_with fail
      go_region_held3 (fun w' => w'.cell? ⟨pf, 0, none⟩ = some (.func (.func 59) #[] #[.pointer (some ⟨pv, 0, none⟩), .pointer (some ⟨pt, 0, none⟩), .pointer (some ⟨pf, 0, none⟩)]) ∧ w'.cell? ⟨wr.heap.size, 0, none⟩ = some (.string x) ∧ w'.cell? ⟨wr.heap.size, 1, none⟩ = some (.int .i64 (n2 : Int)))
        (first | go_keep | exact ⟨kf, k0, k1⟩)
        (first
          | (refine step_put1 (by rfl) (.tmp 25) (.tmp 28) (by rfl) base v xs.length (xs.map Value.string) (by simp [Act.eval]) (own_below Gr.out.own ((((Below.refl wr.heap.size wr).alloc (Nat.le_refl _) _).alloc (by first | omega | (simp; done) | (simp; omega)) _).drew)) (wr.heap.size + 1) x (by simp [Act.eval]) (by simp) (by omega) (by first | omega | (simp; done) | (simp; omega)) ?_; intro g1 cap1 y1 P1; have hy := ((((Below.refl wr.heap.size wr).alloc (Nat.le_refl _) (.cells #[.string x, .int .i64 (n2 : Int)] 49)).alloc (by first | omega | (simp; done) | (simp; omega)) (.cells #[.string x] 9)).drew); have KA : Kept S v.ownBlock wr y1 := (Kept.of_below hy).trans (Kept.of_grown P1.grown); have E2 := Er.out.kept KA LL.out HRW.out; have D2 := (((DB.new wr x (n2 : Int) 49).alloc (.cells #[.string x] 9)).drew).kept (S := S) (Kept.of_grown P1.grown) hSw hRw; have kf := E2.fb.c0; have k0 := D2.c0; have k1 := D2.c1; have s2 := KA.size; have hgw : g1 ≠ wr.heap.size := by (rcases P1.at_ with h9 | h9; exact fun e => hRw (by rw [h9, e]; rfl); exact fun e => by have := h9.1; simp [World.drew] at this; omega))
          | (go_at_call 59; refine (HIc.out y1 _ (.slice (some ⟨g1, 0, none⟩) (xs.length + 1) cap1) E2 (Nat.le_trans hwb s2) (V.keep wr y1 _ Gr.out.inv ((hy.mono hH).grown P1.grown (by first | omega | (simp; done) | (simp; omega)) (fun q hq => by have := HRW.out q hq; have := LL.out.t0; have := LL.out.t1; omega))) (by simpa using P1.own)).mono ?_; rintro e y2 ⟨rfl, G2⟩; have K2 : Kept S (some g1) y1 y2 := G2.kept; have E3 := E2.kept K2 LL.out (fun q hq => by injection hq with hq; subst hq; exact own_low P1.own _ rfl); have D3 := D2.kept K2 hSw (fun e => by injection e with e; exact hgw e.symm); have kf := E3.fb.c0; have k0 := D3.c0; have k1 := D3.c1)
          | ((trace_state; fail)))
      all_goals
        have KF : Kept S v.ownBlock wr y2 := KA.since K2 (fun q hq => by injection hq with hq; subst hq; rcases P1.at_ with h9 | h9; exact .inl (by rw [h9]; rfl); exact .inr (by have := h9.1; simp [World.drew] at this; omega))
        have EF := Lib.hid (Er.out.kept KF LL.out HRW.out)
        have GF : Went S Inv base v xs (mid_ step t xs es (step s (xs, n)) (k + 1)) W y2 := ⟨by rw [HMK.out]; exact G2.inv, Gr.out.kept.trans KF, own_after Gr.out.own hy P1 (fun q hq => by have := LL.out.sh q hq; have := LL.out.t0; have := LL.out.t1; omega) K2 (by simpa using G2.own)⟩
        have GG := Lib.hid GF
        clear KF GF E2 E3 D2 D3 G2 K2 P1 hy KA kf k0 k1
        go_wp2
        go_roundg (m - (k + 1))
        case measure => omega
        case rel => exact ⟨k + 1, by omega, by omega, by go_num, EF.out, GG.out⟩
    · obtain rfl : k = m := by omega
      have GE := Lib.hid Gr.out
      go_wp2
      go_end0
      exact ⟨rfl, by rw [← HME.out]; exact GE.out⟩

end Go.Proofs.Ytndhhofidkaomaa
