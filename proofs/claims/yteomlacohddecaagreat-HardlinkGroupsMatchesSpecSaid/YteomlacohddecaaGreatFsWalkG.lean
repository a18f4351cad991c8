/- walk of package fstree once more, at a function that makes memory of its own as it visits: the blocks that are the visitor's may grow in number. Conditions: all walks from the start end; the visit leaves all but the visitor's blocks alone. -/
import Derived.Test.YteomlacohddecaaGreatFsWalk2

set_option linter.all false
namespace Go.Proofs.YteomlacohddecaaGreat
open Go.RowKit

/-- What is asked of the visit; S: the blocks that are the visitor's. -/
structure VisG {σ : Type} (t : Tr) (s0 : Nat) (g : FuncId) (caps : Array Value) (H0 : Nat) (Inv : World → σ → (Nat → Prop) → Prop) (step : σ → Vis → σ) (sI : σ) : Prop where
  eg : ∀ args w, (callFunc g args).run Tryz.prog w = .ok (.enter g args) w
  inn : ∀ W s S, Inv W s S → ∀ b, S b → b < W.heap.size
  keep : ∀ W W' s S, Inv W s S → Below H0 W W' → (∀ b, S b → W'.heap[b]? = W.heap[b]?) → Inv W' s S
  call : ∀ W s S xs n v, H0 ≤ W.heap.size → Inv W s S → Rch t s0 xs n → Strs W W.heap.size v xs → (∀ q, v.ownBlock = some q → H0 ≤ q ∧ ¬ S q) → (∃ l1 l2, visits t s0 = l1 ++ (xs, n) :: l2 ∧ s = l1.foldl step sI) → Calls Tryz.prog g (#[v, .int .i64 (n : Int)] ++ caps) W fun e W' => e = .returned (.tuple #[]) ∧ ∃ S', Inv W' (step s (xs, n)) S' ∧ Kept S none W W' ∧ ∀ b, S' b → S b ∨ W.heap.size ≤ b

/-- Where the three variables and the visitor's blocks lie. -/
structure LayG (S : Nat → Prop) (H0 pt pv pf Bt base : Nat) : Prop where
  bt : Bt ≤ H0
  sb : ∀ b, S b → Bt ≤ b
  st : ¬ S pt
  sv : ¬ S pv
  sf : ¬ S pf
  t0 : H0 ≤ pt
  v0 : H0 ≤ pv
  f0 : H0 ≤ pf
  t1 : pt < base
  v1 : pv < base
  f1 : pf < base
theorem LayG.next {S S' : Nat → Prop} {H0 pt pv pf Bt base : Nat} (L : LayG S H0 pt pv pf Bt base) {n : Nat} (hn : base ≤ n) (h : ∀ b, S' b → S b ∨ n ≤ b) : LayG S' H0 pt pv pf Bt base := by
  have a1 := L.t0; have a2 := L.v0; have a3 := L.f0; have b1 := L.t1; have b2 := L.v1; have b3 := L.f1; have c := L.bt
  refine ⟨L.bt, fun b hb => ?_, fun hb => ?_, fun hb => ?_, fun hb => ?_, L.t0, L.v0, L.f0, L.t1, L.v1, L.f1⟩
  · rcases h b hb with h1 | h1
    · exact L.sb b h1
    · omega
  · rcases h _ hb with h1 | h1
    · exact L.st h1
    · omega
  · rcases h _ hb with h1 | h1
    · exact L.sv h1
    · omega
  · rcases h _ hb with h1 | h1
    · exact L.sf h1
    · omega
theorem Env.keptG {W W' : World} {g : FuncId} {caps : Array Value} {pt pv pf Bt : Nat} {a : Option Addr} {c : Nat} {t : Tr} {S : Nat → Prop} {row : Option Nat} {H0 base : Nat} (E : Env W g caps pt pv pf Bt a c t) (k : Kept S row W W') (L : LayG S H0 pt pv pf Bt base) (hr : ∀ q, row = some q → base ≤ q) : Env W' g caps pt pv pf Bt a c t := by
  have nR : ∀ p, p < base → some p ≠ row := fun p hp e => by have := hr p e.symm; omega
  have hB : Bt ≤ W.heap.size := by have := E.tb.lt; have := L.t0; have := L.bt; omega
  exact ⟨E.tb.kept k L.st (nR _ L.t1), E.vb.kept k L.sv (nR _ L.v1), E.fb.kept k L.sf (nR _ L.f1),
    E.nd.below (k.below hB L.sb (fun q hq => by have := hr q hq; have := L.t0; have := L.t1; have := L.bt; omega))⟩

/-- What a walk of a place below has done. -/
def WentG {σ : Type} (S : Nat → Prop) (Inv : World → σ → (Nat → Prop) → Prop) (base : Nat) (v : Value) (xs : List ByteArray) (s' : σ) (W W' : World) : Prop :=
  ∃ S', Inv W' s' S' ∧ Kept S v.ownBlock W W' ∧ W'.ownsRow base 9 1 v xs.length (xs.map Value.string) ∧ ∀ b, S' b → S b ∨ W.heap.size ≤ b

/-- The caller's row behind the walk of one child. -/
theorem own_afterG {y y1 y2 : World} {wr : World} {S : Nat → Prop} {base n g1 cap1 : Nat} {v : Value} {xs : List Value} {x : ByteArray} (hO : wr.ownsRow base 9 1 v n xs) (hy : Below wr.heap.size wr y) (P : Put1 y y1 base v n xs x g1 cap1)
    (hS : ∀ q, v.ownBlock = some q → ¬ S q) (K : Kept S (some g1) y1 y2) (O : y2.ownsRow base 9 1 (.slice (some ⟨g1, 0, none⟩) (n + 1) cap1) (n + 1) (xs ++ [.string x])) : y2.ownsRow base 9 1 v n xs := by
  have hx : xs.length = n * 1 := hO.1
  rcases P.at_ with rfl | ⟨hg, hgr⟩
  · exact ownsRow_pop hx O
  · refine own_block hO fun q hq hl => ?_
    have h2 : q < y.heap.size := Nat.lt_of_lt_of_le hl hy.size
    rw [K.block q (Nat.lt_of_lt_of_le h2 hgr.size) (hS q hq) (fun e => by injection e with e; omega), hgr.block q h2 (by simp), hy.block q hl]

theorem pos_kid {σ : Type} (step : σ → Vis → σ) (sI : σ) {t : Tr} {s0 : Nat} (hf : Fin t s0) {xs : List ByteArray} {n : Nat} (hr : Rch t s0 xs n) {s : σ} (hpos : ∃ l1 l2, visits t s0 = l1 ++ sub t xs n ++ l2 ∧ s = l1.foldl step sI) {k : Nat} (hk : k < (kids t n).length) :
    ∃ l1 l2, visits t s0 = l1 ++ sub t (xs ++ [((kids t n).getD k D0).n]) ((kids t n).getD k D0).i.toNat ++ l2 ∧ mid_ step t xs (kids t n) (step s (xs, n)) k = l1.foldl step sI := by
  obtain ⟨l1, l2, e1, e2⟩ := hpos
  have h3 : kids t n = (kids t n).take k ++ (kids t n).getD k D0 :: (kids t n).drop (k + 1) := by rw [deD hk, ← List.drop_eq_getElem_cons hk, List.take_append_drop]
  have h4 : ((kids t n).flatMap fun e => sub t (xs ++ [e.n]) e.i.toNat) = (((kids t n).take k).flatMap fun e => sub t (xs ++ [e.n]) e.i.toNat) ++ (sub t (xs ++ [((kids t n).getD k D0).n]) ((kids t n).getD k D0).i.toNat ++ (((kids t n).drop (k + 1)).flatMap fun e => sub t (xs ++ [e.n]) e.i.toNat)) := by
    conv => lhs; rw [h3]
    rw [List.flatMap_append, List.flatMap_cons]
  refine ⟨l1 ++ (xs, n) :: ((kids t n).take k).flatMap fun e => sub t (xs ++ [e.n]) e.i.toNat, (((kids t n).drop (k + 1)).flatMap fun e => sub t (xs ++ [e.n]) e.i.toNat) ++ l2, ?_, ?_⟩
  · rw [e1, sub_eq hf hr, h4]
    simp only [List.append_assoc, List.cons_append]
  · unfold mid_
    rw [e2, List.foldl_append, List.foldl_cons]

set_option maxRecDepth 100000 in
set_option maxHeartbeats 4000000 in
theorem followG_any {σ : Type} {t : Tr} {s0 : Nat} {g : FuncId} {caps : Array Value} {H0 : Nat} {Inv : World → σ → (Nat → Prop) → Prop} {step : σ → Vis → σ} {sI : σ} (V : VisG t s0 g caps H0 Inv step sI)
    (h1 : Ok1 t) (fr : From t s0) {pt pv pf Bt base : Nat} (a : Option Addr) (c : Nat) :
    ∀ xs n, Rch t s0 xs n → ∀ (W : World) (s : σ) (S : Nat → Prop) (v : Value), Env W g caps pt pv pf Bt a c t → LayG S H0 pt pv pf Bt base → base ≤ W.heap.size → Inv W s S → (∀ q, v.ownBlock = some q → ¬ S q) → W.ownsRow base 9 1 v xs.length (xs.map Value.string) → (∃ l1 l2, visits t s0 = l1 ++ sub t xs n ++ l2 ∧ s = l1.foldl step sI) →
      Calls Tryz.prog 65 #[v, .int .i64 (n : Int), .pointer (some ⟨pv, 0, none⟩), .pointer (some ⟨pt, 0, none⟩), .pointer (some ⟨pf, 0, none⟩)] W fun e W' => e = .returned (.tuple #[]) ∧ WentG S Inv base v xs (fin_ step t xs n s) W W' := by
  refine sub_ind fr.fin _ fun xs n hr ih => ?_
  intro W s S v E L hW hI hN hO hpos
  obtain ⟨hn, _, hvn⟩ := h1.rch hr fr.lt fr.used
  have hxl : xs.length ≤ 40 := Nat.le_trans (fr.fin _ _ hr) h1.le
  have hxm : ∀ x ∈ xs, x.size ≤ maxLen := fun x hx => by have := (vname_size (hvn x hx)).2; unfold maxLen; omega
  have hHW : H0 ≤ W.heap.size := by have := L.t0; have := L.t1; omega
  have HC := Lib.hid (V.call W s S xs n v hHW hI hr (strs_row hO hxm (by omega)) (fun q hq => ⟨by have := own_low hO q hq; have := L.t0; have := L.t1; omega, hN q hq⟩) (by obtain ⟨l1, l2, e1, e2⟩ := hpos; exact ⟨l1, _, by rw [e1, sub_eq fr.fin hr, List.append_assoc, List.cons_append], e2⟩))
  have eg := V.eg
  obtain ⟨b, o, ve, vd, va, vx, rfl, hb, hc, hs⟩ := E.nd.one hn
  obtain ⟨ea, ec, rfl, hec, hel, hef, hex⟩ := hs.es
  have hc2 := hc.c2
  change W.cell? ⟨b, o + n * 8 + 2, none⟩ = some (.slice ea (kids t n).length ec) at hc2
  change (kids t n).length ≤ ec at hec
  change (kids t n).length ≤ 35184372088832 at hel
  have HEX := Lib.hid (show 0 < (kids t n).length → ∃ b o, ea = some ⟨b, o, none⟩ ∧ b < Bt ∧ ∀ j, j < (kids t n).length →
      W.cell? ⟨b, o + j * 2, none⟩ = some (.string ((kids t n).getD j D0).n) ∧ W.cell? ⟨b, o + j * 2 + 1, none⟩ = some (.int .i64 ((kids t n).getD j D0).i) from hex)
  have HPOS := Lib.hid (fun k (hk : k < (kids t n).length) => pos_kid step sI fr.fin hr hpos hk)
  have HME := Lib.hid (mid_end step fr.fin hr s)
  have HKD := Lib.hid (fun k (hk : k < (kids t n).length) => (show (kids t n).getD k D0 ∈ kids t n from by rw [deD hk]; exact List.getElem_mem hk))
  have HIH := Lib.hid ih
  have HK := Lib.hid (fun e (he : e ∈ kids t n) => h1.kid he)
  have HRS := Lib.hid (fun e (he : e ∈ kids t n) => Rch.snoc hr he)
  have hcl := hc.c2
  clear hex hs hc hef hcl ih hxm hvn hr
  have HMS := Lib.hid (fun k (hk : k < (kids t n).length) => mid_succ step t xs (kids t n) (step s (xs, n)) hk)
  have HMZ := Lib.hid (mid_zero step t xs (kids t n) (step s (xs, n)))
  have nlz : (n : Int) < (t.length : Int) := by omega
  have nz : (0 : Int) ≤ (n : Int) := Int.natCast_nonneg _
  have vc := E.vb.c0
  have EE := Lib.hid E
  have OO := Lib.hid hO
  have LL := Lib.hid L
  have hrow := own_low hO
  have HRW := Lib.hid hrow
  have NN := Lib.hid hN
  have OI := Lib.hid (own_in hO)
  have hbW2 : base ≤ W.heap.size := hW
  have hbW : Bt ≤ W.heap.size := by have := L.bt; omega
  clear E hO L hrow hI hN hpos
  generalize kids t n = es at *
  generalize hm : es.length = m at *
  go_enter Tryz.func65, Tryz.ntmps65
  go_wp2_with (go_at_fn g; refine HC.out.mono ?_; rintro e W1 ⟨rfl, S1, I1, K1, N1⟩; have E1 := EE.out.keptG K1 LL.out (by simp); have hB1 : Below Bt W W1 := K1.below hbW LL.out.sb (by simp); have tc1 := E1.tb.c0; have ec1 := (hB1.cell (p := ⟨b, o + n * 8 + 2, none⟩) hb).trans hc2; have tl1 := E1.tb.lt)
  have KW1 : Kept S v.ownBlock W W1 := ⟨K1.os, K1.tape, K1.output, K1.size, fun k hk hS _ => K1.block k hk hS (by simp)⟩
  have O1 := Lib.hid (own_block OO.out (fun q hq hl => K1.block q hl (NN.out q hq) (by simp)))
  have EK1 := Lib.hid E1
  have KK1 := Lib.hid KW1
  have II1 := Lib.hid I1
  have NN1 := Lib.hid N1
  clear N1 I1 K1 E1 KW1 hB1 tc1 ec1 tl1 HC
  go_loopg [8, 20] m (fun gg _ s20 wr => ∃ k : Nat, k ≤ m ∧ m - k ≤ gg ∧ s20 = .int .i64 k ∧ Aside (Env wr g caps pt pv pf Bt (some ⟨b, o, none⟩) c t) ∧ Aside (WentG S Inv base v xs (mid_ step t xs es (step s (xs, n)) k) W wr))
  case atStart => exact ⟨0, by omega, by omega, rfl, EK1.out, (show WentG S Inv base v xs _ W W1 from ⟨S1, by rw [HMZ.out]; exact II1.out, KK1.out, O1.out, NN1.out⟩)⟩
  case round =>
    obtain ⟨k, hk, hg, rfl, Er, Gr⟩ := hrel
    clear EK1 KK1 II1 O1 NN1
    obtain ⟨Sr, gi, gk9, go, gn⟩ := Gr.out
    have GI := Lib.hid gi
    have GK := Lib.hid gk9
    have GO := Lib.hid go
    have GN := Lib.hid gn
    have LR := Lib.hid (LL.out.next hbW2 gn)
    have GIN := Lib.hid (V.inn _ _ _ gi)
    have NR := Lib.hid (show ∀ q, v.ownBlock = some q → ¬ Sr q from fun q hq hs => by
      rcases gn q hs with h1 | h1
      · exact NN.out q hq h1
      · have := OI.out q hq; omega)
    clear gi gk9 go gn
    by_cases hlt : k < m
    · have hltz : (k : Int) < (m : Int) := by omega
      obtain ⟨be, oe, rfl, hbe, hje⟩ := HEX.out (by omega)
      have hBr : Below Bt W wr := GK.out.below hbW LL.out.sb (fun q hq => by have := HRW.out q hq; have := LL.out.t0; have := LL.out.t1; have := LL.out.bt; omega)
      have g0 := (hBr.cell (p := ⟨be, oe + k * 2, none⟩) hbe).trans (hje k hlt).1
      have g1 := (hBr.cell (p := ⟨be, oe + k * 2 + 1, none⟩) hbe).trans (hje k hlt).2
      have HKE := Lib.hid (HKD.out k hlt)
      have HMK := Lib.hid (HMS.out k hlt)
      have HRc := Lib.hid (HRS.out _ HKE.out)
      have HPk := Lib.hid (HPOS.out k hlt)
      have HIc := Lib.hid (HIH.out _ HKE.out)
      obtain ⟨q1, q2, q3, _, _⟩ := HK.out _ HKE.out
      clear hje hBr
      generalize es.getD k D0 = e at *
      obtain ⟨x, i⟩ := e
      simp only at g0 g1 HMK HRc HIc HPk q1 q2 q3
      obtain ⟨n2, rfl⟩ := Int.eq_ofNat_of_zero_le (Int.le_of_lt q2)
      simp only [Int.toNat_natCast] at HMK HRc HIc HPk q3
      have fl := Er.out.fb.lt
      have fc := Er.out.fb.c0
      have hwb : base ≤ wr.heap.size := Nat.le_trans hW GK.out.size
      have hs9 := hwb
      have hH : H0 ≤ wr.heap.size := by have := LL.out.t0; have := LL.out.t1; omega
      have hSw : ¬ Sr wr.heap.size := fun hs => by have := GIN.out _ hs; omega
      have hRw : some wr.heap.size ≠ v.ownBlock := fun e => by have := own_in GO.out _ e.symm; omega
      go_wp2_with fail
      go_region_held3 (fun w' => w'.cell? ⟨pf, 0, none⟩ = some (.func (.func 65) #[] #[.pointer (some ⟨pv, 0, none⟩), .pointer (some ⟨pt, 0, none⟩), .pointer (some ⟨pf, 0, none⟩)]) ∧ w'.cell? ⟨wr.heap.size, 0, none⟩ = some (.string x) ∧ w'.cell? ⟨wr.heap.size, 1, none⟩ = some (.int .i64 (n2 : Int)))
        (first | go_keep | exact ⟨kf, k0, k1⟩)
        (first
          | (refine step_put1 (by rfl) (.tmp 25) (.tmp 28) (by rfl) base v xs.length (xs.map Value.string) (by simp [Act.eval]) (own_below GO.out ((((Below.refl wr.heap.size wr).alloc (Nat.le_refl _) _).alloc (by first | omega | (simp; done) | (simp; omega)) _).drew)) (wr.heap.size + 1) x (by simp [Act.eval]) (by simp) (by omega) (by first | omega | (simp; done) | (simp; omega)) ?_; intro g1 cap1 y1 P1; have hy := ((((Below.refl wr.heap.size wr).alloc (Nat.le_refl _) (.cells #[.string x, .int .i64 (n2 : Int)] 59)).alloc (by first | omega | (simp; done) | (simp; omega)) (.cells #[.string x] 9)).drew); have KA : Kept (fun _ => False) v.ownBlock wr y1 := (Kept.of_below hy).trans (Kept.of_grown P1.grown); have KB : Kept Sr v.ownBlock wr y1 := (Kept.of_below hy).trans (Kept.of_grown P1.grown); have E2 := Er.out.keptG KB LR.out HRW.out; have D2 := (((DB.new wr x (n2 : Int) 59).alloc (.cells #[.string x] 9)).drew).kept (S := Sr) (Kept.of_grown P1.grown) hSw hRw; have SB : ∀ b, Sr b → y1.heap[b]? = wr.heap[b]? := fun b hb => KA.block b (GIN.out b hb) (fun h => h) (fun e => NR.out b e.symm hb); have hg1 : ¬ Sr g1 := (by rcases P1.at_ with h9 | h9; exact NR.out g1 (by rw [h9]; rfl); exact fun hs => (by have := GIN.out _ hs; have := h9.1; simp [World.drew] at this; omega)); have kf := E2.fb.c0; have k0 := D2.c0; have k1 := D2.c1; have s2 := KA.size; have hgw : g1 ≠ wr.heap.size := by (rcases P1.at_ with h9 | h9; exact fun e => hRw (by rw [h9, e]; rfl); exact fun e => by have := h9.1; simp [World.drew] at this; omega))
          | (go_at_call 65; refine (HIc.out y1 _ Sr (.slice (some ⟨g1, 0, none⟩) (xs.length + 1) cap1) E2 LR.out (Nat.le_trans hwb s2) (V.keep wr y1 _ Sr GI.out ((hy.mono hH).grown P1.grown (by first | omega | (simp; done) | (simp; omega)) (fun q hq => by have := HRW.out q hq; have := LL.out.t0; have := LL.out.t1; omega)) SB) (fun q hq => by injection hq with hq; subst hq; exact hg1) (by simpa using P1.own) HPk.out).mono ?_; rintro e y2 ⟨rfl, S2, i2, k2, o2, n2'⟩; have K2 : Kept Sr (some g1) y1 y2 := k2; have E3 := E2.keptG K2 LR.out (fun q hq => by injection hq with hq; subst hq; exact own_low P1.own _ rfl); have D3 := D2.kept K2 hSw (fun e => by injection e with e; exact hgw e.symm); have kf := E3.fb.c0; have k0 := D3.c0; have k1 := D3.c1)
          | ((trace_state; fail)))
      all_goals
        have KW : Kept S v.ownBlock W y2 := ⟨k2.os.trans (KA.os.trans GK.out.os), k2.tape.trans (KA.tape.trans GK.out.tape), k2.output.trans (KA.output.trans GK.out.output), Nat.le_trans GK.out.size (Nat.le_trans KA.size k2.size), fun q hq hS hr => by
          have hwq : q < wr.heap.size := Nat.lt_of_lt_of_le hq GK.out.size
          rw [k2.block q (Nat.lt_of_lt_of_le hwq KA.size) (fun hs => by
            rcases GN.out q hs with h1 | h1
            · exact hS h1
            · omega) (fun e => by
            have e : q = g1 := by injection e
            rcases P1.at_ with h9 | h9
            · exact hr (by rw [h9, e]; rfl)
            · have h8 : g1 = _ := h9.1
              simp [World.drew] at h8; omega), KA.block q hwq (fun h => h) hr, GK.out.block q hq hS hr]⟩
        have EF := Lib.hid E3
        have GF : WentG S Inv base v xs (mid_ step t xs es (step s (xs, n)) (k + 1)) W y2 := ⟨S2, by rw [HMK.out]; exact i2, KW, own_afterG GO.out hy P1 NR.out K2 (by simpa using o2), fun q hq => by
          rcases n2' q hq with h1 | h1
          · exact GN.out q h1
          · exact .inr (Nat.le_trans GK.out.size (Nat.le_trans KA.size h1))⟩
        have GG := Lib.hid GF
        clear KW GF E2 E3 D2 D3 i2 k2 o2 n2' K2 P1 hy KA KB SB hg1 kf k0 k1
        go_wp2
        go_roundg (m - (k + 1))
        case measure => omega
        case rel => exact ⟨k + 1, by omega, by omega, by go_num, EF.out, GG.out⟩
    · obtain rfl : k = m := by omega
      have GE := Lib.hid Gr.out
      go_wp2
      go_end0
      exact ⟨rfl, by rw [← HME.out]; exact GE.out⟩

set_option maxRecDepth 100000 in
set_option maxHeartbeats 2000000 in
theorem walkG_any {σ : Type} {t : Tr} {s0 : Nat} {g : FuncId} {caps : Array Value} {H0 : Nat} {Inv : World → σ → (Nat → Prop) → Prop} {step : σ → Vis → σ} {sI : σ} (V : VisG t s0 g caps H0 Inv step sI)
    (h1 : Ok1 t) (fr : From t s0) {Bt : Nat} (hBt : Bt ≤ H0) (a : Option Addr) (c : Nat) (W : World) (S : Nat → Prop) (hSB : ∀ b, S b → Bt ≤ b) (hn : Nods W Bt a c t) (hH : H0 ≤ W.heap.size) (hI : Inv W sI S) :
    Calls Tryz.prog 38 #[.agg #[.slice a t.length c], .int .i64 (s0 : Int), .func (.func g) #[] caps] W fun e W' => e = .returned (.tuple #[]) ∧ ∃ S', Inv W' ((visits t s0).foldl step sI) S' ∧ Kept S none W W' ∧ ∀ b, S' b → S b ∨ W.heap.size ≤ b := by
  have eg := V.eg
  have eg2 : ∀ args w, (callFunc 65 args).run Tryz.prog w = .ok (.enter 65 args) w := enters_of Tryz.func65 (by kernel_rfl) rfl
  have hin := V.inn _ _ _ hI
  have HF := Lib.hid (fun base pt pv pf => followG_any (pt := pt) (pv := pv) (pf := pf) (Bt := Bt) (base := base) V h1 fr a c [] s0 .nil)
  have LL := Lib.hid (show LayG S H0 W.heap.size (W.heap.size + 1) (W.heap.size + 1 + 1) Bt (W.heap.size + 3) from ⟨hBt, hSB, fun h => by have := hin _ h; omega, fun h => by have := hin _ h; omega, fun h => by have := hin _ h; omega, hH, by omega, by omega, by omega, by omega, by omega⟩)
  have HN := Lib.hid hn
  have HIN := Lib.hid hin
  clear hn hin
  go_enter Tryz.func38, Tryz.ntmps38
  go_wp2_with fail
  have B3 := (((Below.refl W.heap.size W).alloc (Nat.le_refl _) (.cells #[.slice a t.length c] 24)).alloc (by first | omega | (simp; done) | (simp; omega)) (.cells #[.func (.func g) #[] caps] 80)).alloc (by first | omega | (simp; done) | (simp; omega)) (.cells #[.func (.func 65) #[] #[.pointer (some ⟨W.heap.size + 1, 0, none⟩), .pointer (some ⟨W.heap.size, 0, none⟩), .pointer (some ⟨W.heap.size + 1 + 1, 0, none⟩)]] 80)
  refine (HF.out _ _ _ _ _ sI S (.slice none 0 0) ⟨((One.new W _ _).alloc _).alloc _, ((One.new (W.alloc _) _ _).alloc _).at_ (by simp), (One.new ((W.alloc _).alloc _) _ _).at_ (by simp), HN.out.below (B3.mono (by omega))⟩ LL.out (by simp) (V.keep _ _ _ S hI (B3.mono hH) (fun b hb => B3.block b (HIN.out b hb))) (fun q hq => by simp [Value.ownBlock] at hq) (World.ownsRow_nil _ _ _ _) ⟨[], [], by simp [visits], rfl⟩).mono ?_
  rintro e W' ⟨rfl, S', i2, k2, _, n2⟩
  have FIN := Lib.hid (show ∃ S', Inv W' ((visits t s0).foldl step sI) S' ∧ Kept S none W W' ∧ ∀ b, S' b → S b ∨ W.heap.size ≤ b from ⟨S', i2, (Kept.of_below B3).trans k2, fun b hb => by
    rcases n2 b hb with h1 | h1
    · exact .inl h1
    · exact .inr (Nat.le_trans B3.size h1)⟩)
  clear i2 k2 n2 B3
  go_wp2
  go_end0
  exact ⟨rfl, FIN.out⟩

end Go.Proofs.YteomlacohddecaaGreat
