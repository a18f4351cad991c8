/- GlobFindMatchesSpec: for every tree and every pattern the law returns true.
   Condition: as each theorem states; this text: FsWalkG, FsRow, FsPaths, FsWhere, FsWhere2, FsAllP, GlobFind, GlobRefC. -/
import Derived.Test.YtoeiaffkedkepaaGreatDoorGf4
import Derived.Test.YtoeiaffkedkepaaGreatDoorGf3
import Derived.Laws.AppendOwn
import Derived.Laws.AppendOwnNone
import Derived.OwnWalk
import Derived.Test.YtoeiaffkedkepaaGreatDoorGf1
import Derived.Sort.OwnSorted
import Derived.Lib.OwnBridge
import Derived.Test.YtoeiaffkedkepaaGreatDoorGf2
import Derived.Shelf.GgClosure.GivesRunes

/- walk of package fstree once more, at a function that makes memory of its own as it visits: the blocks that are the visitor's may grow in number. Conditions: all walks from the start end; the visit leaves all but the visitor's blocks alone. -/
namespace Go.Proofs.YtoeiaffkedkepaaGreatDoor
open Go.RowKit

/-- What is asked of the visit; S: the blocks that are the visitor's. -/
structure VisG {σ : Type} (t : Tr) (s0 : Nat) (g : FuncId) (caps : Array Value) (H0 : Nat) (Inv : World → σ → (Nat → Prop) → Prop) (step : σ → Vis → σ) (sI : σ) : Prop where
  eg : ∀ args w, (callFunc g args).run Tryz.prog w = .ok (.enter g args) w
  inn : ∀ W s S, Inv W s S → ∀ b, S b → b < W.heap.size
  keep : ∀ W W' s S, Inv W s S → Below H0 W W' → (∀ b, S b → W'.heap[b]? = W.heap[b]?) → Inv W' s S
  call : ∀ W s S xs n v, H0 ≤ W.heap.size → Inv W s S → Rch t s0 xs n → Strs W W.heap.size v xs → (∀ q, v.ownBlock = some q → H0 ≤ q ∧ ¬ S q) → (∃ l1 l2, visits t s0 = l1 ++ (xs, n) :: l2 ∧ s = l1.foldl step sI) → Calls Tryz.prog g (#[v, .int .i64 (n : Int)] ++ caps) W fun e W' => e = .returned (.tuple #[]) ∧ ∃ S', Inv W' (step s (xs, n)) S' ∧ Kept S none W W' ∧ ∀ b, S' b → S b ∨ W.heap.size ≤ b

/-- Where the three variables and the visitor's blocks lie. -/
structure LayG (S : Nat → Prop) (H0 pt pv pf Bt base : Nat) : Prop where
  bt : Bt ≤ H0
  sb : ∀ b, S b → Bt ≤ b
  st : ¬ S pt
  sv : ¬ S pv
  sf : ¬ S pf
  t0 : H0 ≤ pt
  v0 : H0 ≤ pv
  f0 : H0 ≤ pf
  t1 : pt < base
  v1 : pv < base
  f1 : pf < base
theorem LayG.next {S S' : Nat → Prop} {H0 pt pv pf Bt base : Nat} (L : LayG S H0 pt pv pf Bt base) {n : Nat} (hn : base ≤ n) (h : ∀ b, S' b → S b ∨ n ≤ b) : LayG S' H0 pt pv pf Bt base := by
  have a1 := L.t0; have a2 := L.v0; have a3 := L.f0; have b1 := L.t1; have b2 := L.v1; have b3 := L.f1; have c := L.bt
  refine ⟨L.bt, fun b hb => ?_, fun hb => ?_, fun hb => ?_, fun hb => ?_, L.t0, L.v0, L.f0, L.t1, L.v1, L.f1⟩
  · rcases h b hb with h1 | h1
    · exact L.sb b h1
    · omega
  · rcases h _ hb with h1 | h1
    · exact L.st h1
    · omega
  · rcases h _ hb with h1 | h1
    · exact L.sv h1
    · omega
  · rcases h _ hb with h1 | h1
    · exact L.sf h1
    · omega
theorem Env.keptG {W W' : World} {g : FuncId} {caps : Array Value} {pt pv pf Bt : Nat} {a : Option Addr} {c : Nat} {t : Tr} {S : Nat → Prop} {row : Option Nat} {H0 base : Nat} (E : Env W g caps pt pv pf Bt a c t) (k : Kept S row W W') (L : LayG S H0 pt pv pf Bt base) (hr : ∀ q, row = some q → base ≤ q) : Env W' g caps pt pv pf Bt a c t := by
  have nR : ∀ p, p < base → some p ≠ row := fun p hp e => by have := hr p e.symm; omega
  have hB : Bt ≤ W.heap.size := by have := E.tb.lt; have := L.t0; have := L.bt; omega
  exact ⟨E.tb.kept k L.st (nR _ L.t1), E.vb.kept k L.sv (nR _ L.v1), E.fb.kept k L.sf (nR _ L.f1),
    E.nd.below (k.below hB L.sb (fun q hq => by have := hr q hq; have := L.t0; have := L.t1; have := L.bt; omega))⟩

/-- What a walk of a place below has done. -/
def WentG {σ : Type} (S : Nat → Prop) (Inv : World → σ → (Nat → Prop) → Prop) (base : Nat) (v : Value) (xs : List ByteArray) (s' : σ) (W W' : World) : Prop :=
  ∃ S', Inv W' s' S' ∧ Kept S v.ownBlock W W' ∧ W'.ownsRow base 9 1 v xs.length (xs.map Value.string) ∧ ∀ b, S' b → S b ∨ W.heap.size ≤ b

/-- The caller's row behind the walk of one child. -/
theorem own_afterG {y y1 y2 : World} {wr : World} {S : Nat → Prop} {base n g1 cap1 : Nat} {v : Value} {xs : List Value} {x : ByteArray} (hO : wr.ownsRow base 9 1 v n xs) (hy : Below wr.heap.size wr y) (P : Put1 y y1 base v n xs x g1 cap1)
    (hS : ∀ q, v.ownBlock = some q → ¬ S q) (K : Kept S (some g1) y1 y2) (O : y2.ownsRow base 9 1 (.slice (some ⟨g1, 0, none⟩) (n + 1) cap1) (n + 1) (xs ++ [.string x])) : y2.ownsRow base 9 1 v n xs := by
  have hx : xs.length = n * 1 := hO.1
  rcases P.at_ with rfl | ⟨hg, hgr⟩
  · exact ownsRow_pop hx O
  · refine own_block hO fun q hq hl => ?_
    have h2 : q < y.heap.size := Nat.lt_of_lt_of_le hl hy.size
    rw [K.block q (Nat.lt_of_lt_of_le h2 hgr.size) (hS q hq) (fun e => by injection e with e; omega), hgr.block q h2 (by simp), hy.block q hl]

theorem pos_kid {σ : Type} (step : σ → Vis → σ) (sI : σ) {t : Tr} {s0 : Nat} (hf : Fin t s0) {xs : List ByteArray} {n : Nat} (hr : Rch t s0 xs n) {s : σ} (hpos : ∃ l1 l2, visits t s0 = l1 ++ sub t xs n ++ l2 ∧ s = l1.foldl step sI) {k : Nat} (hk : k < (kids t n).length) :
    ∃ l1 l2, visits t s0 = l1 ++ sub t (xs ++ [((kids t n).getD k D0).n]) ((kids t n).getD k D0).i.toNat ++ l2 ∧ mid_ step t xs (kids t n) (step s (xs, n)) k = l1.foldl step sI := by
  obtain ⟨l1, l2, e1, e2⟩ := hpos
  have h3 : kids t n = (kids t n).take k ++ (kids t n).getD k D0 :: (kids t n).drop (k + 1) := by rw [deD hk, ← List.drop_eq_getElem_cons hk, List.take_append_drop]
  have h4 : ((kids t n).flatMap fun e => sub t (xs ++ [e.n]) e.i.toNat) = (((kids t n).take k).flatMap fun e => sub t (xs ++ [e.n]) e.i.toNat) ++ (sub t (xs ++ [((kids t n).getD k D0).n]) ((kids t n).getD k D0).i.toNat ++ (((kids t n).drop (k + 1)).flatMap fun e => sub t (xs ++ [e.n]) e.i.toNat)) := by
    conv => lhs; rw [h3]
    rw [List.flatMap_append, List.flatMap_cons]
  refine ⟨l1 ++ (xs, n) :: ((kids t n).take k).flatMap fun e => sub t (xs ++ [e.n]) e.i.toNat, (((kids t n).drop (k + 1)).flatMap fun e => sub t (xs ++ [e.n]) e.i.toNat) ++ l2, ?_, ?_⟩
  · rw [e1, sub_eq hf hr, h4]
    simp only [List.append_assoc, List.cons_append]
  · unfold mid_
    rw [e2, List.foldl_append, List.foldl_cons]

set_option maxRecDepth 100000 in
set_option maxHeartbeats 4000000 in
theorem followG_any {σ : Type} {t : Tr} {s0 : Nat} {g : FuncId} {caps : Array Value} {H0 : Nat} {Inv : World → σ → (Nat → Prop) → Prop} {step : σ → Vis → σ} {sI : σ} (V : VisG t s0 g caps H0 Inv step sI)
    (h1 : Ok1 t) (fr : From t s0) {pt pv pf Bt base : Nat} (a : Option Addr) (c : Nat) :
    ∀ xs n, Rch t s0 xs n → ∀ (W : World) (s : σ) (S : Nat → Prop) (v : Value), Env W g caps pt pv pf Bt a c t → LayG S H0 pt pv pf Bt base → base ≤ W.heap.size → Inv W s S → (∀ q, v.ownBlock = some q → ¬ S q) → W.ownsRow base 9 1 v xs.length (xs.map Value.string) → (∃ l1 l2, visits t s0 = l1 ++ sub t xs n ++ l2 ∧ s = l1.foldl step sI) →
      Calls Tryz.prog 72 #[v, .int .i64 (n : Int), .pointer (some ⟨pv, 0, none⟩), .pointer (some ⟨pt, 0, none⟩), .pointer (some ⟨pf, 0, none⟩)] W fun e W' => e = .returned (.tuple #[]) ∧ WentG S Inv base v xs (fin_ step t xs n s) W W' := by
  refine sub_ind fr.fin _ fun xs n hr ih => ?_
  intro W s S v E L hW hI hN hO hpos
  obtain ⟨hn, _, hvn⟩ := h1.rch hr fr.lt fr.used
  have hxl : xs.length ≤ 40 := Nat.le_trans (fr.fin _ _ hr) h1.le
  have hxm : ∀ x ∈ xs, x.size ≤ maxLen := fun x hx => by have := (vname_size (hvn x hx)).2; unfold maxLen; omega
  have hHW : H0 ≤ W.heap.size := by have := L.t0; have := L.t1; omega
  have HC := Lib.hid (V.call W s S xs n v hHW hI hr (strs_row hO hxm (by omega)) (fun q hq => ⟨by have := own_low hO q hq; have := L.t0; have := L.t1; omega, hN q hq⟩) (by obtain ⟨l1, l2, e1, e2⟩ := hpos; exact ⟨l1, _, by rw [e1, sub_eq fr.fin hr, List.append_assoc, List.cons_append], e2⟩))
  have eg := V.eg
  obtain ⟨b, o, ve, vd, va, vx, rfl, hb, hc, hs⟩ := E.nd.one hn
  obtain ⟨ea, ec, rfl, hec, hel, hef, hex⟩ := hs.es
  have hc2 := hc.c2
  change W.cell? ⟨b, o + n * 8 + 2, none⟩ = some (.slice ea (kids t n).length ec) at hc2
  change (kids t n).length ≤ ec at hec
  change (kids t n).length ≤ 35184372088832 at hel
  have HEX := Lib.hid (show 0 < (kids t n).length → ∃ b o, ea = some ⟨b, o, none⟩ ∧ b < Bt ∧ ∀ j, j < (kids t n).length →
      W.cell? ⟨b, o + j * 2, none⟩ = some (.string ((kids t n).getD j D0).n) ∧ W.cell? ⟨b, o + j * 2 + 1, none⟩ = some (.int .i64 ((kids t n).getD j D0).i) from hex)
  have HPOS := Lib.hid (fun k (hk : k < (kids t n).length) => pos_kid step sI fr.fin hr hpos hk)
  have HME := Lib.hid (mid_end step fr.fin hr s)
  have HKD := Lib.hid (fun k (hk : k < (kids t n).length) => (show (kids t n).getD k D0 ∈ kids t n from by rw [deD hk]; exact List.getElem_mem hk))
  have HIH := Lib.hid ih
  have HK := Lib.hid (fun e (he : e ∈ kids t n) => h1.kid he)
  have HRS := Lib.hid (fun e (he : e ∈ kids t n) => Rch.snoc hr he)
  have hcl := hc.c2
  clear hex hs hc hef hcl ih hxm hvn hr
  have HMS := Lib.hid (fun k (hk : k < (kids t n).length) => mid_succ step t xs (kids t n) (step s (xs, n)) hk)
  have HMZ := Lib.hid (mid_zero step t xs (kids t n) (step s (xs, n)))
  have nlz : (n : Int) < (t.length : Int) := by omega
  have nz : (0 : Int) ≤ (n : Int) := Int.natCast_nonneg _
  have vc := E.vb.c0
  have EE := Lib.hid E
  have OO := Lib.hid hO
  have LL := Lib.hid L
  have hrow := own_low hO
  have HRW := Lib.hid hrow
  have NN := Lib.hid hN
  have OI := Lib.hid (own_in hO)
  have hbW2 : base ≤ W.heap.size := hW
  have hbW : Bt ≤ W.heap.size := by have := L.bt; omega
  clear E hO L hrow hI hN hpos
  generalize kids t n = es at *
  generalize hm : es.length = m at *
  go_enter Tryz.func72, Tryz.ntmps72
  go_wp2_with (go_at_fn g; refine HC.out.mono ?_; rintro e W1 ⟨rfl, S1, I1, K1, N1⟩; have E1 := EE.out.keptG K1 LL.out (by simp); have hB1 : Below Bt W W1 := K1.below hbW LL.out.sb (by simp); have tc1 := E1.tb.c0; have ec1 := (hB1.cell (p := ⟨b, o + n * 8 + 2, none⟩) hb).trans hc2; have tl1 := E1.tb.lt)
  have KW1 : Kept S v.ownBlock W W1 := ⟨K1.os, K1.tape, K1.output, K1.size, fun k hk hS _ => K1.block k hk hS (by simp)⟩
  have O1 := Lib.hid (own_block OO.out (fun q hq hl => K1.block q hl (NN.out q hq) (by simp)))
  have EK1 := Lib.hid E1
  have KK1 := Lib.hid KW1
  have II1 := Lib.hid I1
  have NN1 := Lib.hid N1
  clear N1 I1 K1 E1 KW1 hB1 tc1 ec1 tl1 HC
  go_loopg [8, 20] m (fun gg _ s20 wr => ∃ k : Nat, k ≤ m ∧ m - k ≤ gg ∧ s20 = .int .i64 k ∧ Aside (Env wr g caps pt pv pf Bt (some ⟨b, o, none⟩) c t) ∧ Aside (WentG S Inv base v xs (mid_ step t xs es (step s (xs, n)) k) W wr))
  case atStart => exact ⟨0, by omega, by omega, rfl, EK1.out, (show WentG S Inv base v xs _ W W1 from ⟨S1, by rw [HMZ.out]; exact II1.out, KK1.out, O1.out, NN1.out⟩)⟩
  case round =>
    obtain ⟨k, hk, hg, rfl, Er, Gr⟩ := hrel
    clear EK1 KK1 II1 O1 NN1
    obtain ⟨Sr, gi, gk9, go, gn⟩ := Gr.out
    have GI := Lib.hid gi
    have GK := Lib.hid gk9
    have GO := Lib.hid go
    have GN := Lib.hid gn
    have LR := Lib.hid (LL.out.next hbW2 gn)
    have GIN := Lib.hid (V.inn _ _ _ gi)
    have NR := Lib.hid (show ∀ q, v.ownBlock = some q → ¬ Sr q from fun q hq hs => by
      rcases gn q hs with h1 | h1
      · exact NN.out q hq h1
      · have := OI.out q hq; omega)
    clear gi gk9 go gn
    by_cases hlt : k < m
    · have hltz : (k : Int) < (m : Int) := by omega
      obtain ⟨be, oe, rfl, hbe, hje⟩ := HEX.out (by omega)
      have hBr : Below Bt W wr := GK.out.below hbW LL.out.sb (fun q hq => by have := HRW.out q hq; have := LL.out.t0; have := LL.out.t1; have := LL.out.bt; omega)
      have g0 := (hBr.cell (p := ⟨be, oe + k * 2, none⟩) hbe).trans (hje k hlt).1
      have g1 := (hBr.cell (p := ⟨be, oe + k * 2 + 1, none⟩) hbe).trans (hje k hlt).2
      have HKE := Lib.hid (HKD.out k hlt)
      have HMK := Lib.hid (HMS.out k hlt)
      have HRc := Lib.hid (HRS.out _ HKE.out)
      have HPk := Lib.hid (HPOS.out k hlt)
      have HIc := Lib.hid (HIH.out _ HKE.out)
      obtain ⟨q1, q2, q3, _, _⟩ := HK.out _ HKE.out
      clear hje hBr
      generalize es.getD k D0 = e at *
      obtain ⟨x, i⟩ := e
      simp only at g0 g1 HMK HRc HIc HPk q1 q2 q3
      obtain ⟨n2, rfl⟩ := Int.eq_ofNat_of_zero_le (Int.le_of_lt q2)
      simp only [Int.toNat_natCast] at HMK HRc HIc HPk q3
      have fl := Er.out.fb.lt
      have fc := Er.out.fb.c0
      have hwb : base ≤ wr.heap.size := Nat.le_trans hW GK.out.size
      have hs9 := hwb
      have hH : H0 ≤ wr.heap.size := by have := LL.out.t0; have := LL.out.t1; omega
      have hSw : ¬ Sr wr.heap.size := fun hs => by have := GIN.out _ hs; omega
      have hRw : some wr.heap.size ≠ v.ownBlock := fun e => by have := own_in GO.out _ e.symm; omega
      go_wp2_with fail
      go_region_held3 (fun w' => w'.cell? ⟨pf, 0, none⟩ = some (.func (.func 72) #[] #[.pointer (some ⟨pv, 0, none⟩), .pointer (some ⟨pt, 0, none⟩), .pointer (some ⟨pf, 0, none⟩)]) ∧ w'.cell? ⟨wr.heap.size, 0, none⟩ = some (.string x) ∧ w'.cell? ⟨wr.heap.size, 1, none⟩ = some (.int .i64 (n2 : Int)))
        (first | go_keep | exact ⟨kf, k0, k1⟩)
        (first
          | (refine step_put1 (by rfl) (.tmp 25) (.tmp 28) (by rfl) base v xs.length (xs.map Value.string) (by simp [Act.eval]) (own_below GO.out ((((Below.refl wr.heap.size wr).alloc (Nat.le_refl _) _).alloc (by first | omega | (simp; done) | (simp; omega)) _).drew)) (wr.heap.size + 1) x (by simp [Act.eval]) (by simp) (by omega) (by first | omega | (simp; done) | (simp; omega)) ?_; intro g1 cap1 y1 P1; have hy := ((((Below.refl wr.heap.size wr).alloc (Nat.le_refl _) (.cells #[.string x, .int .i64 (n2 : Int)] 58)).alloc (by first | omega | (simp; done) | (simp; omega)) (.cells #[.string x] 9)).drew); have KA : Kept (fun _ => False) v.ownBlock wr y1 := (Kept.of_below hy).trans (Kept.of_grown P1.grown); have KB : Kept Sr v.ownBlock wr y1 := (Kept.of_below hy).trans (Kept.of_grown P1.grown); have E2 := Er.out.keptG KB LR.out HRW.out; have D2 := (((DB.new wr x (n2 : Int) 58).alloc (.cells #[.string x] 9)).drew).kept (S := Sr) (Kept.of_grown P1.grown) hSw hRw; have SB : ∀ b, Sr b → y1.heap[b]? = wr.heap[b]? := fun b hb => KA.block b (GIN.out b hb) (fun h => h) (fun e => NR.out b e.symm hb); have hg1 : ¬ Sr g1 := (by rcases P1.at_ with h9 | h9; exact NR.out g1 (by rw [h9]; rfl); exact fun hs => (by have := GIN.out _ hs; have := h9.1; simp [World.drew] at this; omega)); have kf := E2.fb.c0; have k0 := D2.c0; have k1 := D2.c1; have s2 := KA.size; have hgw : g1 ≠ wr.heap.size := by (rcases P1.at_ with h9 | h9; exact fun e => hRw (by rw [h9, e]; rfl); exact fun e => by have := h9.1; simp [World.drew] at this; omega))
          | (go_at_call 72; refine (HIc.out y1 _ Sr (.slice (some ⟨g1, 0, none⟩) (xs.length + 1) cap1) E2 LR.out (Nat.le_trans hwb s2) (V.keep wr y1 _ Sr GI.out ((hy.mono hH).grown P1.grown (by first | omega | (simp; done) | (simp; omega)) (fun q hq => by have := HRW.out q hq; have := LL.out.t0; have := LL.out.t1; omega)) SB) (fun q hq => by injection hq with hq; subst hq; exact hg1) (by simpa using P1.own) HPk.out).mono ?_; rintro e y2 ⟨rfl, S2, i2, k2, o2, n2'⟩; have K2 : Kept Sr (some g1) y1 y2 := k2; have E3 := E2.keptG K2 LR.out (fun q hq => by injection hq with hq; subst hq; exact own_low P1.own _ rfl); have D3 := D2.kept K2 hSw (fun e => by injection e with e; exact hgw e.symm); have kf := E3.fb.c0; have k0 := D3.c0; have k1 := D3.c1)
          | ((trace_state; fail)))
      all_goals
        have KW : Kept S v.ownBlock W y2 := ⟨k2.os.trans (KA.os.trans GK.out.os), k2.tape.trans (KA.tape.trans GK.out.tape), k2.output.trans (KA.output.trans GK.out.output), Nat.le_trans GK.out.size (Nat.le_trans KA.size k2.size), fun q hq hS hr => by
          have hwq : q < wr.heap.size := Nat.lt_of_lt_of_le hq GK.out.size
          rw [k2.block q (Nat.lt_of_lt_of_le hwq KA.size) (fun hs => by
            rcases GN.out q hs with h1 | h1
            · exact hS h1
            · omega) (fun e => by
            have e : q = g1 := by injection e
            rcases P1.at_ with h9 | h9
            · exact hr (by rw [h9, e]; rfl)
            · have h8 : g1 = _ := h9.1
              simp [World.drew] at h8; omega), KA.block q hwq (fun h => h) hr, GK.out.block q hq hS hr]⟩
        have EF := Lib.hid E3
        have GF : WentG S Inv base v xs (mid_ step t xs es (step s (xs, n)) (k + 1)) W y2 := ⟨S2, by rw [HMK.out]; exact i2, KW, own_afterG GO.out hy P1 NR.out K2 (by simpa using o2), fun q hq => by
          rcases n2' q hq with h1 | h1
          · exact GN.out q h1
          · exact .inr (Nat.le_trans GK.out.size (Nat.le_trans KA.size h1))⟩
        have GG := Lib.hid GF
        clear KW GF E2 E3 D2 D3 i2 k2 o2 n2' K2 P1 hy KA KB SB hg1 kf k0 k1
        go_wp2
        go_roundg (m - (k + 1))
        case measure => omega
        case rel => exact ⟨k + 1, by omega, by omega, by go_num, EF.out, GG.out⟩
    · obtain rfl : k = m := by omega
      have GE := Lib.hid Gr.out
      go_wp2
      go_end0
      exact ⟨rfl, by rw [← HME.out]; exact GE.out⟩

set_option maxRecDepth 100000 in
set_option maxHeartbeats 2000000 in
theorem walkG_any {σ : Type} {t : Tr} {s0 : Nat} {g : FuncId} {caps : Array Value} {H0 : Nat} {Inv : World → σ → (Nat → Prop) → Prop} {step : σ → Vis → σ} {sI : σ} (V : VisG t s0 g caps H0 Inv step sI)
    (h1 : Ok1 t) (fr : From t s0) {Bt : Nat} (hBt : Bt ≤ H0) (a : Option Addr) (c : Nat) (W : World) (S : Nat → Prop) (hSB : ∀ b, S b → Bt ≤ b) (hn : Nods W Bt a c t) (hH : H0 ≤ W.heap.size) (hI : Inv W sI S) :
    Calls Tryz.prog 48 #[.agg #[.slice a t.length c], .int .i64 (s0 : Int), .func (.func g) #[] caps] W fun e W' => e = .returned (.tuple #[]) ∧ ∃ S', Inv W' ((visits t s0).foldl step sI) S' ∧ Kept S none W W' ∧ ∀ b, S' b → S b ∨ W.heap.size ≤ b := by
  have eg := V.eg
  have eg2 : ∀ args w, (callFunc 72 args).run Tryz.prog w = .ok (.enter 72 args) w := enters_of Tryz.func72 (by kernel_rfl) rfl
  have hin := V.inn _ _ _ hI
  have HF := Lib.hid (fun base pt pv pf => followG_any (pt := pt) (pv := pv) (pf := pf) (Bt := Bt) (base := base) V h1 fr a c [] s0 .nil)
  have LL := Lib.hid (show LayG S H0 W.heap.size (W.heap.size + 1) (W.heap.size + 1 + 1) Bt (W.heap.size + 3) from ⟨hBt, hSB, fun h => by have := hin _ h; omega, fun h => by have := hin _ h; omega, fun h => by have := hin _ h; omega, hH, by omega, by omega, by omega, by omega, by omega⟩)
  have HN := Lib.hid hn
  have HIN := Lib.hid hin
  clear hn hin
  go_enter Tryz.func48, Tryz.ntmps48
  go_wp2_with fail
  have B3 := (((Below.refl W.heap.size W).alloc (Nat.le_refl _) (.cells #[.slice a t.length c] 24)).alloc (by first | omega | (simp; done) | (simp; omega)) (.cells #[.func (.func g) #[] caps] 83)).alloc (by first | omega | (simp; done) | (simp; omega)) (.cells #[.func (.func 72) #[] #[.pointer (some ⟨W.heap.size + 1, 0, none⟩), .pointer (some ⟨W.heap.size, 0, none⟩), .pointer (some ⟨W.heap.size + 1 + 1, 0, none⟩)]] 83)
  refine (HF.out _ _ _ _ _ sI S (.slice none 0 0) ⟨((One.new W _ _).alloc _).alloc _, ((One.new (W.alloc _) _ _).alloc _).at_ (by simp), (One.new ((W.alloc _).alloc _) _ _).at_ (by simp), HN.out.below (B3.mono (by omega))⟩ LL.out (by simp) (V.keep _ _ _ S hI (B3.mono hH) (fun b hb => B3.block b (HIN.out b hb))) (fun q hq => by simp [Value.ownBlock] at hq) (World.ownsRow_nil _ _ _ _) ⟨[], [], by simp [visits], rfl⟩).mono ?_
  rintro e W' ⟨rfl, S', i2, k2, _, n2⟩
  have FIN := Lib.hid (show ∃ S', Inv W' ((visits t s0).foldl step sI) S' ∧ Kept S none W W' ∧ ∀ b, S' b → S b ∨ W.heap.size ≤ b from ⟨S', i2, (Kept.of_below B3).trans k2, fun b hb => by
    rcases n2 b hb with h1 | h1
    · exact .inl h1
    · exact .inr (Nat.le_trans B3.size h1)⟩)
  clear i2 k2 n2 B3
  go_wp2
  go_end0
  exact ⟨rfl, FIN.out⟩

end Go.Proofs.YtoeiaffkedkepaaGreatDoor

/- Rows of routes: visits as path, depth and inode; the path of a visit in bytes; an append to such a row. Conditions: as each theorem states. -/
namespace Go.Proofs.YtoeiaffkedkepaaGreatDoor
open Go.RowKit

/-! ## Paths in bytes -/
def flatP (xs : List ByteArray) : List UInt8 := xs.flatMap fun x => 47 :: x.data.toList
theorem flatP_snoc (xs : List ByteArray) (x : ByteArray) : flatP (xs ++ [x]) = flatP xs ++ 47 :: x.data.toList := by
  unfold flatP; rw [List.flatMap_append]; simp
theorem pstr_snoc (xs : List ByteArray) (x : ByteArray) : pstr (xs ++ [x]) = flatP xs ++ 47 :: x.data.toList := by
  unfold pstr; rw [if_neg (by simp)]; exact flatP_snoc xs x
theorem pstr_flat {xs : List ByteArray} (h : xs ≠ []) : pstr xs = flatP xs := by unfold pstr; rw [if_neg h]; rfl
def bP (xs : List ByteArray) : ByteArray := ⟨(pstr xs).toArray⟩
theorem bP_snoc (xs : List ByteArray) (x : ByteArray) : (⟨(flatP xs).toArray⟩ ++ ⟨#[47]⟩ ++ x : ByteArray) = bP (xs ++ [x]) := by
  unfold bP
  rw [pstr_snoc]
  apply ByteArray.ext
  simp
theorem bP_nil : bP [] = ⟨#[47]⟩ := rfl
theorem bP_ne {xs : List ByteArray} (h : xs ≠ []) (hv : ∀ x ∈ xs, vname x = true) : bP xs ≠ ⟨#[47]⟩ := by
  intro e
  have h1 := congrArg (fun b : ByteArray => b.data.toList) e
  simp only [bP] at h1
  rw [pstr_flat h] at h1
  cases xs with
  | nil => exact h rfl
  | cons x r =>
    have hx := (vname_size (hv x (by simp))).1
    have h2 := congrArg List.length h1
    have h3 : x.data.toList.length = x.size := by simp
    simp only [flatP, List.flatMap_cons, List.length_append, List.length_cons, List.length_nil] at h2
    simp at h2
    omega
theorem bP_size {xs : List ByteArray} (hv : ∀ x ∈ xs, vname x = true) : (bP xs).size ≤ 13 * xs.length + 1 := by
  have h1 := flat_len xs hv
  have e : (bP xs).size = (pstr xs).length := by unfold bP; simp [ByteArray.size]
  rw [e]
  unfold pstr
  split
  · simp
  · omega
theorem flatP_size {xs : List ByteArray} (hv : ∀ x ∈ xs, vname x = true) : (flatP xs).length ≤ 13 * xs.length := flat_len xs hv

/-! ## Visits as cells -/
abbrev V0 : Vis := ([], 0)
def cellsV (p : Vis) : List Value := [.string (bP p.1), .int .i64 (p.1.length : Nat), .int .i64 (p.2 : Nat)]
def flatV (L : List Vis) : List Value := L.flatMap cellsV
theorem flatV_cons (p : Vis) (L : List Vis) : flatV (p :: L) = .string (bP p.1) :: .int .i64 (p.1.length : Nat) :: .int .i64 (p.2 : Nat) :: flatV L := by
  unfold flatV cellsV; rw [List.flatMap_cons]; rfl
theorem flatV_append (L M : List Vis) : flatV (L ++ M) = flatV L ++ flatV M := by unfold flatV; rw [List.flatMap_append]
theorem flatV_len : ∀ L : List Vis, (flatV L).length = L.length * 3
  | [] => rfl
  | p :: L => by rw [flatV_cons]; simp only [List.length_cons]; rw [flatV_len L]; omega
theorem flatV_one : ∀ (L : List Vis), ∀ u ∈ flatV L, u.oneCell' = true
  | [], u, h => by simp [flatV] at h
  | p :: L, u, h => by
    rw [flatV_cons] at h
    rcases List.mem_cons.1 h with rfl | h
    · rfl
    · rcases List.mem_cons.1 h with rfl | h
      · rfl
      · rcases List.mem_cons.1 h with rfl | h
        · rfl
        · exact flatV_one L u h
theorem flatV_get : ∀ (L : List Vis) (j : Nat), j < L.length →
    (flatV L)[j * 3]? = some (.string (bP (L.getD j V0).1)) ∧ (flatV L)[j * 3 + 1]? = some (.int .i64 ((L.getD j V0).1.length : Nat)) ∧ (flatV L)[j * 3 + 2]? = some (.int .i64 ((L.getD j V0).2 : Nat))
  | [], j, h => absurd h (by simp)
  | p :: L, 0, _ => by rw [flatV_cons]; simp
  | p :: L, j + 1, h => by
    have ih := flatV_get L j (by simpa using h)
    have e1 : (j + 1) * 3 = j * 3 + 1 + 1 + 1 := by omega
    rw [flatV_cons, e1]
    simpa using ih
theorem visD {L : List Vis} {k : Nat} (h : k < L.length) : L.getD k V0 = L[k] := by
  rw [List.getD_eq_getElem?_getD, List.getElem?_eq_getElem h]; rfl
/-- The slice value v reads as these visits, all of it below block B. -/
def Vs (w : World) (B : Nat) (v : Value) (L : List Vis) : Prop :=
  ∃ b c, v = .slice (some ⟨b, 0, none⟩) L.length c ∧ L.length ≤ c ∧ 0 < L.length ∧ b < B ∧ ∀ j, j < L.length →
      w.cell? ⟨b, j * 3, none⟩ = some (.string (bP (L.getD j V0).1)) ∧ w.cell? ⟨b, j * 3 + 1, none⟩ = some (.int .i64 ((L.getD j V0).1.length : Nat)) ∧ w.cell? ⟨b, j * 3 + 2, none⟩ = some (.int .i64 ((L.getD j V0).2 : Nat))
theorem Vs.below {w w' : World} {B : Nat} {v : Value} {L : List Vis} (h : Vs w B v L) (hb : Below B w w') : Vs w' B v L := by
  obtain ⟨b, c, hv, hc, h0, hB, hj⟩ := h
  refine ⟨b, c, hv, hc, h0, hB, fun j hl => ?_⟩
  rw [hb.cell (p := ⟨b, _, none⟩) hB, hb.cell (p := ⟨b, _, none⟩) hB, hb.cell (p := ⟨b, _, none⟩) hB]
  exact hj j hl
theorem Vs.more {w : World} {B B' : Nat} {v : Value} {L : List Vis} (h : Vs w B v L) (hB : B ≤ B') : Vs w B' v L := by
  obtain ⟨b, c, hv, hc, h0, hb, hj⟩ := h
  exact ⟨b, c, hv, hc, h0, by omega, hj⟩
theorem Vs.up {w w' : World} {v : Value} {L : List Vis} (h : Vs w w.heap.size v L) (hb : Below w.heap.size w w') : Vs w' w'.heap.size v L := (h.below hb).more hb.size
theorem vs_own {w : World} {base n : Nat} {v : Value} {L : List Vis} (h : w.ownsRow base 56 3 v n (flatV L)) (h0 : 0 < L.length) : Vs w w.heap.size v L := by
  have hn : n = L.length := by have := h.1; rw [flatV_len] at this; omega
  subst hn
  rcases h.2 with ⟨hv, hz⟩ | ⟨g, cap, cur, hv, _, hg, hnc, _, _, _⟩
  · omega
  · have hlt : g < w.heap.size := (Array.getElem?_eq_some_iff.1 hg).1
    rw [hv] at h
    refine ⟨g, cap, hv, hnc, h0, hlt, fun j hj => ?_⟩
    obtain ⟨h1, h2, h3⟩ := flatV_get L j hj
    rw [← h.cellAt (j * 3) (by omega)] at h1
    rw [← h.cellAt (j * 3 + 1) (by omega)] at h2
    rw [← h.cellAt (j * 3 + 2) (by omega)] at h3
    exact ⟨h1, h2, h3⟩
theorem vs_new (w : World) (p : Vis) : (w.alloc (.cells #[.string (bP p.1), .int .i64 (p.1.length : Nat), .int .i64 (p.2 : Nat)] 56)).ownsRow w.heap.size 56 3 (.slice (some ⟨w.heap.size, 0, none⟩) 1 1) 1 (flatV [p]) :=
  ⟨rfl, .inr ⟨_, 1, _, rfl, Nat.le_refl _, heap_alloc_new w _, by omega, by simp [maxLen], rfl, rfl⟩⟩

theorem rt_info : (Tryz.prog.info? 56).map (fun i => (i.zero, i.size, i.bytes)) = some (some (.agg #[.string ByteArray.empty, .int .i64 0, .int .i64 0]), 3, 32) := by kernel_rfl

set_option maxRecDepth 100000 in
/-- append(row, x): row a row of the call's own, x one route in a block of its own; where the new row lies. -/
theorem wpList_append_rt {w : World} {ops : Array Oper} {rest : List Oper} {o : Oper} {a : Act} {Q : Exit → Act → World → Prop} (hgd : o.guard = none) (s x : Operand)
    (ho : o.op = .call { callee := .builtin .append, args := #[s, x], argTypes := #[53, 53] })
    (base : Nat) (v : Value) (n : Nat) (L : List Vis) (hs : a.eval s = v) (hown : w.ownsRow base 56 3 v n (flatV L))
    (q : Nat) (p : Vis) (hx : a.eval x = .slice (some ⟨q, 0, none⟩) 1 1)
    (h0 : w.cell? ⟨q, 0, none⟩ = some (.string (bP p.1))) (h1 : w.cell? ⟨q, 1, none⟩ = some (.int .i64 (p.1.length : Nat))) (h2 : w.cell? ⟨q, 2, none⟩ = some (.int .i64 (p.2 : Nat)))
    (hn : n ≤ 100000) (hbase : base ≤ w.heap.size)
    (h : ∀ v' w', w'.ownsRow base 56 3 v' (n + 1) (flatV (L ++ [p])) → w.grownBy w' v.ownBlock → (v'.ownBlock = v.ownBlock ∨ v'.ownBlock = some w.heap.size) → wpList Tryz.prog ops Q rest (a.put o.dst v') w') : wpList Tryz.prog ops Q (o :: rest) a w := by
  obtain ⟨i0, hi, hz0, hz1, hz2⟩ := info_parts rt_info
  refine wpList_plain hgd fun K hK2 => ?_
  obtain ⟨v', w', hrun, g1, g2, _, g3⟩ := run_append_own_at (P := Tryz.prog) w base 53 o.type 56 i0 _ 3 32 Tryz.underlying53 hi hz0 hz1 hz2 rfl (by omega) v n (flatV L) hown ⟨q, 0, none⟩ 1 1 (flatV [p]) rfl (by
      intro j u hu
      have hjl : j < 3 := by
        have := (List.getElem?_eq_some_iff.1 hu).1
        simpa [flatV_len] using this
      have hadd : (⟨q, 0, none⟩ : Addr).add j = ⟨q, j, none⟩ := by unfold Addr.add; split <;> simp_all
      rw [hadd]
      match j, hjl with
      | 0, _ => simp [flatV, cellsV] at hu; subst hu; exact h0
      | 1, _ => simp [flatV, cellsV] at hu; subst hu; exact h1
      | 2, _ => simp [flatV, cellsV] at hu; subst hu; exact h2) (flatV_one _) (by unfold maxLen; omega) (by omega) hbase
  unfold Oper.wp
  simp [execOp, ho, resolve, invoke, builtin, hs, hx, hrun, Result.andThen]
  exact hK2 _ _ (h v' w' (by rw [flatV_append]; exact g1) g2 g3)

end Go.Proofs.YtoeiaffkedkepaaGreatDoor

/- Plain facts on the paths of a valid tree: each path leads to one inode, no two paths are the same bytes, none is too long. No program. -/
namespace Go.Proofs.YtoeiaffkedkepaaGreatDoor
open Go.RowKit

theorem no47 {x : ByteArray} (h : vname x = true) : ∀ b ∈ x.data.toList, b ≠ 47 := by
  intro b hb e
  unfold vname at h
  rw [Bool.and_eq_true] at h
  have h2 := h.2
  unfold vbytes at h2
  rw [decide_eq_true_iff] at h2
  obtain ⟨j, hj, rfl⟩ := List.mem_iff_getElem.1 hb
  have hjs : j < x.size := by
    have e9 : x.data.toList.length = x.size := by simp
    rw [← e9]; exact hj
  have h3 := h2 j hjs
  have e2 : x[j] = 47 := by
    rw [← e]
    show x.data[j] = _
    simp
  rw [e2] at h3
  revert h3
  decide
theorem split47 : ∀ (a b c d : List UInt8), (∀ x ∈ a, x ≠ 47) → (∀ x ∈ b, x ≠ 47) → (c = [] ∨ ∃ r, c = 47 :: r) → (d = [] ∨ ∃ r, d = 47 :: r) → a ++ c = b ++ d → a = b ∧ c = d
  | [], [], _, _, _, _, _, _, h => ⟨rfl, h⟩
  | [], y :: b, c, d, _, hb, hc, _, h => by
    rcases hc with rfl | ⟨r, rfl⟩
    · simp at h
    · simp only [List.nil_append, List.cons_append] at h
      injection h with h1 _
      exact absurd h1.symm (hb y (by simp))
  | x :: a, [], c, d, ha, _, _, hd, h => by
    rcases hd with rfl | ⟨r, rfl⟩
    · simp at h
    · simp only [List.nil_append, List.cons_append] at h
      injection h with h1 _
      exact absurd h1 (ha x (by simp))
  | x :: a, y :: b, c, d, ha, hb, hc, hd, h => by
    simp only [List.cons_append] at h
    injection h with h1 h2
    obtain ⟨h3, h4⟩ := split47 a b c d (fun z hz => ha z (by simp [hz])) (fun z hz => hb z (by simp [hz])) hc hd h2
    exact ⟨by rw [h1, h3], h4⟩
theorem flatP_cons (x : ByteArray) (r : List ByteArray) : flatP (x :: r) = 47 :: (x.data.toList ++ flatP r) := by unfold flatP; rw [List.flatMap_cons]; rfl
theorem flatP_inj : ∀ (xs ys : List ByteArray), (∀ x ∈ xs, vname x = true) → (∀ y ∈ ys, vname y = true) → flatP xs = flatP ys → xs = ys
  | [], [], _, _, _ => rfl
  | [], y :: ys, _, _, h => by rw [flatP_cons] at h; simp [flatP] at h
  | x :: xs, [], _, _, h => by rw [flatP_cons] at h; simp [flatP] at h
  | x :: xs, y :: ys, hx, hy, h => by
    rw [flatP_cons, flatP_cons] at h
    injection h with _ h
    have hh : ∀ l : List ByteArray, flatP l = [] ∨ ∃ r, flatP l = 47 :: r := fun l => by
      cases l with
      | nil => exact .inl rfl
      | cons z l => exact .inr ⟨_, flatP_cons z l⟩
    obtain ⟨h1, h2⟩ := split47 _ _ _ _ (no47 (hx x (by simp))) (no47 (hy y (by simp))) (hh xs) (hh ys) h
    rw [bytes_ext h1, flatP_inj xs ys (fun z hz => hx z (by simp [hz])) (fun z hz => hy z (by simp [hz])) h2]
theorem bP_inj {xs ys : List ByteArray} (hx : ∀ x ∈ xs, vname x = true) (hy : ∀ y ∈ ys, vname y = true) (h : bP xs = bP ys) : xs = ys := by
  by_cases h1 : xs = []
  · by_cases h2 : ys = []
    · rw [h1, h2]
    · exact absurd (h.symm.trans (by rw [h1]; rfl)) (bP_ne h2 hy)
  · by_cases h2 : ys = []
    · exact absurd (h.trans (by rw [h2]; rfl)) (bP_ne h1 hx)
    · have e := congrArg (fun b : ByteArray => b.data.toList) h
      simp only [bP] at e
      rw [pstr_flat h1, pstr_flat h2] at e
      exact flatP_inj xs ys hx hy e
theorem Rch.last {t : Tr} {s m : Nat} {zs : List ByteArray} (h : Rch t s zs m) : (zs = [] ∧ m = s) ∨ ∃ xs p e, Rch t s xs p ∧ e ∈ kids t p ∧ zs = xs ++ [e.n] ∧ m = e.i.toNat := by
  cases h with
  | nil => exact .inl ⟨rfl, rfl⟩
  | snoc h he => exact .inr ⟨_, _, _, h, he, rfl, rfl⟩
theorem Rch.end_ {t : Tr} (h1 : Ok1 t) {s : Nat} : ∀ (n : Nat) {zs : List ByteArray} {m k : Nat}, zs.length = n → Rch t s zs m → Rch t s zs k → m = k
  | 0, zs, m, k, hz, a, b => by
    have : zs = [] := List.eq_nil_of_length_eq_zero hz
    subst this
    rcases a.last with ⟨_, rfl⟩ | ⟨xs, p, e, _, _, hh, _⟩
    · rcases b.last with ⟨_, rfl⟩ | ⟨xs, p, e, _, _, hh, _⟩
      · rfl
      · simp at hh
    · simp at hh
  | n + 1, zs, m, k, hz, a, b => by
    rcases a.last with ⟨rfl, _⟩ | ⟨xs, p, e, ha, he, rfl, rfl⟩
    · simp at hz
    · rcases b.last with ⟨hh, _⟩ | ⟨ys, q, f, hb, hf, hh, rfl⟩
      · simp at hh
      · obtain ⟨h2, h3⟩ := List.append_inj' hh rfl
        subst h2
        have hpq := Rch.end_ h1 n (by simpa using hz) ha hb
        subst hpq
        have h4 : e.n = f.n := by simpa using h3
        have hef : e = f := by
          obtain ⟨i, hi, rfl⟩ := List.mem_iff_getElem.1 he
          obtain ⟨j, hj, rfl⟩ := List.mem_iff_getElem.1 hf
          rcases Nat.lt_trichotomy i j with hl | hl | hl
          · exact absurd h4 (ltS_ne (List.pairwise_iff_getElem.1 (h1.fine p).srt i j hi hj hl))
          · subst hl; rfl
          · exact absurd h4.symm (ltS_ne (List.pairwise_iff_getElem.1 (h1.fine p).srt j i hj hi hl))
        rw [hef]
/-- The paths of the visits whose inode is wanted. -/
def pathsW (want : Nat → Bool) (L : List Vis) : List ByteArray := (L.filter fun p => want p.2).map fun p => bP p.1
theorem pathsW_snoc (want : Nat → Bool) (L : List Vis) (p : Vis) : pathsW want (L ++ [p]) = if want p.2 = true then pathsW want L ++ [bP p.1] else pathsW want L := by
  unfold pathsW
  rw [List.filter_append, List.map_append]
  by_cases h : want p.2 = true <;> simp [h]
theorem pathsW_mem {want : Nat → Bool} {L M : List Vis} (h : L.Perm M) (x : ByteArray) : x ∈ pathsW want L ↔ x ∈ pathsW want M := by
  unfold pathsW
  rw [List.mem_map, List.mem_map]
  constructor
  · rintro ⟨p, hp, e⟩
    obtain ⟨h1, h2⟩ := List.mem_filter.1 hp
    exact ⟨p, List.mem_filter.2 ⟨h.mem_iff.1 h1, h2⟩, e⟩
  · rintro ⟨p, hp, e⟩
    obtain ⟨h1, h2⟩ := List.mem_filter.1 hp
    exact ⟨p, List.mem_filter.2 ⟨h.mem_iff.2 h1, h2⟩, e⟩
theorem pathsW_len (want : Nat → Bool) (L : List Vis) : (pathsW want L).length ≤ L.length := by
  unfold pathsW; rw [List.length_map]; exact List.length_filter_le _ _
theorem vis_names {t : Tr} (h1 : Ok1 t) {s : Nat} (fr : From t s) {p : Vis} (hp : p ∈ visits t s) : (∀ x ∈ p.1, vname x = true) ∧ p.2 < t.length ∧ p.1.length ≤ 40 := by
  have hr := (mem_visits fr.fin (ys := p.1) (m := p.2)).1 hp
  obtain ⟨h2, _, h3⟩ := h1.rch hr fr.lt fr.used
  exact ⟨h3, h2, Nat.le_trans (fr.fin _ _ hr) h1.le⟩
theorem pathsW_nodup {t : Tr} (h1 : Ok1 t) {s : Nat} (fr : From t s) (want : Nat → Bool) {L : List Vis} (hL : (visits t s).Perm L) : (pathsW want L).Nodup := by
  have hn : L.Nodup := hL.nodup_iff.1 (nodup_visits h1 fr.fin)
  unfold pathsW List.Nodup
  rw [List.pairwise_map]
  refine List.Pairwise.imp_of_mem ?_ (hn.filter _)
  intro a b ha hb hab e
  have ha2 := hL.mem_iff.2 (List.mem_filter.1 ha).1
  have hb2 := hL.mem_iff.2 (List.mem_filter.1 hb).1
  have e1 := bP_inj (vis_names h1 fr ha2).1 (vis_names h1 fr hb2).1 e
  have ra := (mem_visits fr.fin (ys := a.1) (m := a.2)).1 ha2
  have rb := (mem_visits fr.fin (ys := b.1) (m := b.2)).1 hb2
  rw [e1] at ra
  exact hab (Prod.ext e1 (Rch.end_ h1 _ rfl ra rb))
theorem pathsW_fits {t : Tr} (h1 : Ok1 t) {s : Nat} (fr : From t s) {want : Nat → Bool} {L : List Vis} (hL : (visits t s).Perm L) : ∀ x ∈ pathsW want L, x.size ≤ maxLen := by
  intro x hx
  unfold pathsW at hx
  obtain ⟨p, hp, rfl⟩ := List.mem_map.1 hx
  have := vis_names h1 fr (hL.mem_iff.2 (List.mem_filter.1 hp).1)
  have h3 := bP_size this.1
  have := this.2.2
  unfold maxLen; omega
theorem Pass.joins {t : Tr} (h : Head t) (p : Pass t 4) {xs : List ByteArray} {n : Nat} (hr : Rch t 0 xs n) : joinV xs = .tuple #[.string (bP xs), faultV 0 0] := by
  have o2 := Pass.ok2 h (p.mono (by omega))
  obtain ⟨hn, hk, hv⟩ := o2.toOk1.rch hr o2.ne (by rw [o2.root]; decide)
  have hc : codeP t n = 0 := p 2 (by omega) n hn
  have hm : (xs, n) ∈ visits t 0 := (mem_visits o2.fin).2 hr
  have hf : farL (visits t 0) n = false := by
    unfold codeP at hc
    split at hc
    · cases hc
    · split at hc
      · cases hc
      · rename_i h3; simpa using h3
  have ht : tooFar xs = false := by
    cases hh : tooFar xs with
    | false => rfl
    | true =>
      have : farL (visits t 0) n = true := by
        unfold farL
        rw [List.any_eq_true]
        exact ⟨_, hm, by simp [hh]⟩
      rw [hf] at this; cases this
  have hj : (joinF xs).1 = 0 := by
    unfold tooFar at ht
    simpa using ht
  unfold joinV joinS bP
  unfold joinF at hj ⊢
  by_cases hc0 : (compFault xs).1 = 0
  · rw [if_pos hc0] at hj
    by_cases hl : 100 < (pstr xs).length
    · rw [if_pos hl] at hj; cases hj
    · rw [if_pos hc0, if_pos hc0, if_neg hl, if_neg hl]
  · rw [if_neg hc0] at hj
    exact absurd hj hc0

end Go.Proofs.YtoeiaffkedkepaaGreatDoor

/- pathsWhere at every valid tree and every function that says which inodes are wanted: their paths in ascending order. Conditions: the tree's cells lie in memory as they read. -/
namespace Go.Proofs.YtoeiaffkedkepaaGreatDoor
open Go.RowKit Go.Sort

/-- What is asked of the function that says which inodes are wanted. -/
structure Wants (gw : FuncId) (capsw : Array Value) (want : Nat → Bool) (w : World) : Prop where
  eg : ∀ args w, (callFunc gw args).run Tryz.prog w = .ok (.enter gw args) w
  call : ∀ W n, Below w.heap.size w W → Calls Tryz.prog gw (#[.int .i64 ((n : Nat) : Int)] ++ capsw) W fun e W' => e = .returned (.bool (want n)) ∧ W' = W
/-- What is found so far: the row of paths in the box pp, its block the visitor's. -/
def WI (w : World) (fv : Value) (want : Nat → Bool) (pw pp : Nat) (W : World) (L : List Vis) (S : Nat → Prop) : Prop :=
  ∃ v, Below w.heap.size w W ∧ One W pw fv ∧ One W pp v ∧ W.ownsRow (pp + 1) 9 1 v (pathsW want L).length ((pathsW want L).map Value.string) ∧ ∀ b, S b ↔ b = pp ∨ v.ownBlock = some b

set_option maxRecDepth 100000 in
set_option maxHeartbeats 3200000 in
theorem where1_any (w : World) (gw : FuncId) (capsw : Array Value) (want : Nat → Bool) (hw : Wants gw capsw want w) (pw pp : Nat) (d1 : w.heap.size ≤ pw) (d2 : pw < pp) {t : Tr} (hd : Head t) (hp4 : Pass t 4)
    (W : World) (L : List Vis) (S : Nat → Prop) (xs : List ByteArray) (n : Nat) (v : Value) (hH : pp + 1 ≤ W.heap.size) (hI : WI w (.func (.func gw) #[] capsw) want pw pp W L S) (hr : Rch t 0 xs n) (hx : Strs W W.heap.size v xs) (_hv : ∀ q, v.ownBlock = some q → pp + 1 ≤ q ∧ ¬ S q) (hL : L.length ≤ 641) :
    Calls Tryz.prog 49 #[v, .int .i64 (n : Int), .pointer (some ⟨pw, 0, none⟩), .pointer (some ⟨pp, 0, none⟩)] W fun e W' => e = .returned (.tuple #[]) ∧ ∃ S', WI w (.func (.func gw) #[] capsw) want pw pp W' (L ++ [(xs, n)]) S' ∧ Kept S none W W' ∧ ∀ b, S' b → S b ∨ W.heap.size ≤ b := by
  obtain ⟨pv, B, ow, op, own, hS⟩ := hI
  have hlen := pathsW_len want L
  have HSN := Lib.hid (pathsW_snoc want L (xs, n))
  have hC := hw.call W n B
  have eg := hw.eg
  have HC := Lib.hid hC
  have HJ := Lib.hid (show Calls Tryz.prog 50 #[v] W fun e w' => e = .returned (.tuple #[.string (bP xs), faultV 0 0]) ∧ Below W.heap.size W w' from by rw [← Pass.joins hd hp4 hr]; exact pathJoin_any v xs W hx)
  have HS := Lib.hid hS
  have OW := Lib.hid ow
  have OP := Lib.hid op
  have ON := Lib.hid own
  have BB := Lib.hid B
  have c1 := ow.c0
  have c2 := op.c0
  have cl1 := ow.lt
  have cl2 := op.lt
  have opz := op.f0
  unfold faultV at HJ
  clear hC hS hx hr _hv ow op own B hw hd hp4
  cases hwn : want n with
  | false =>
    rw [hwn] at HC
    have HF := Lib.hid (show pathsW want (L ++ [(xs, n)]) = pathsW want L from by rw [HSN.out, if_neg (by simp [hwn])])
    clear hwn HSN
    go_enter Tryz.func49, Tryz.ntmps49
    go_wp2_with (go_at_fn gw; refine HC.out.mono ?_; rintro e W1 ⟨rfl, rfl⟩)
    go_end0
    exact ⟨rfl, S, ⟨pv, BB.out, OW.out, OP.out, by rw [HF.out]; exact ON.out, HS.out⟩, Kept.refl _ _ _, fun b hb => .inl hb⟩
  | true =>
    rw [hwn] at HC
    have HF := Lib.hid (show pathsW want (L ++ [(xs, n)]) = pathsW want L ++ [bP xs] from by rw [HSN.out, if_pos (by simp [hwn])])
    clear hwn HSN
    generalize hP : pathsW want L = P at *
    go_enter Tryz.func49, Tryz.ntmps49
    go_wp2_with (go_at_fn gw; refine HC.out.mono ?_; rintro e W1 ⟨rfl, rfl⟩)
    refine HJ.out.mono ?_
    rintro e W2 ⟨rfl, b2⟩
    have k2 := (b2.cell (p := ⟨pp, 0, none⟩) cl2).trans c2
    have z2 := (b2.frozen (p := ⟨pp, 0, none⟩) cl2).trans opz
    have l2 : pp < W2.heap.size := Nat.lt_of_lt_of_le cl2 b2.size
    have O2 := Lib.hid (own_below ON.out b2)
    have B2 := Lib.hid b2
    have Z2 := Lib.hid ((OP.out.below b2 cl2).alloc (.cells #[.int .i64 0, .int .i64 0] 28) |>.alloc (.cells #[.string (bP xs)] 9))
    have B3 := Lib.hid ((b2.alloc b2.size (.cells #[.int .i64 0, .int .i64 0] 28)).alloc (by have := b2.size; first | omega | (simp; omega)) (.cells #[.string (bP xs)] 9))
    have hlow := own_low ON.out
    have HLO := Lib.hid hlow
    have hb2 := b2.size
    clear b2 c1 c2 opz hlow
    go_wp2_with (at_builtin; refine wpList_put1 rfl (.tmp 16) (.tmp 18) rfl (pp + 1) pv _ _ rfl (own_below O2.out (((Below.refl W2.heap.size W2).alloc (Nat.le_refl _) _).alloc (by first | omega | (simp; done) | (simp; omega)) _)) (W2.heap.size + 1) (bP xs) rfl (by simp) (by omega) (by first | omega | (simp; done) | (simp; omega)) ?_; intro g1 cap1 W4 P1; have Z4 := Z2.out.grown P1.grown (fun e => by have := HLO.out pp e.symm; omega); have k4 := Z4.c0; have z4 := Z4.f0; have l4 := Z4.lt)
    have hg1 : g1 ≠ pp := fun e => by
      rcases P1.at_ with h9 | h9
      · have := HLO.out g1 (by rw [h9]; rfl); omega
      · have h8 : g1 = _ := h9.1
        simp at h8; omega
    have FIN : WI w (.func (.func gw) #[] capsw) want pw pp (W4.setCell ⟨pp, 0, none⟩ (.slice (some ⟨g1, 0, none⟩) (P.length + 1) cap1)) (L ++ [(xs, n)]) (fun b => b = pp ∨ b = g1) := by
      refine ⟨_, ?_, ?_, Z4.put _, ?_, fun b => ?_⟩
      · exact ((BB.out.trans (B3.out.mono BB.out.size)).grown P1.grown (by have := BB.out.size; have := B3.out.size; omega) (fun q hq => by have := HLO.out q hq; omega)).setCell (by simp; omega) _
      · exact ((OW.out.below B3.out cl1).grown P1.grown (fun e => by have := HLO.out pw e.symm; omega)).far (by simp; omega) _
      · rw [HF.out, List.map_append, List.length_append]
        exact own_block P1.own (fun q hq hl => Below.heap_setCell _ _ _ _ (fun e => by injection hq with hq; subst hq; exact hg1 e))
      · constructor
        · rintro (h | h)
          · exact .inl h
          · exact .inr (by rw [h]; rfl)
        · rintro (h | h)
          · exact .inl h
          · exact .inr (by injection h with h; exact h.symm)
    have KEP : Kept S none W1 (W4.setCell ⟨pp, 0, none⟩ (.slice (some ⟨g1, 0, none⟩) (P.length + 1) cap1)) := by
      have k0 : Kept S none W1 W4 := ⟨P1.grown.os.trans B3.out.os, P1.grown.tape.trans B3.out.tape, P1.grown.output.trans B3.out.output, Nat.le_trans B3.out.size P1.grown.size, fun k hk hS _ => by
        rw [P1.grown.block k (Nat.lt_of_lt_of_le hk B3.out.size) (fun e => hS ((HS.out k).2 (.inr e.symm))), B3.out.block k hk]⟩
      exact k0.set ((HS.out pp).2 (.inl rfl)) _
    have NEW : ∀ b, (b = pp ∨ b = g1) → S b ∨ W1.heap.size ≤ b := by
      rintro b (h | h)
      · exact .inl ((HS.out b).2 (.inl h))
      · subst h
        rcases P1.at_ with h9 | h9
        · exact .inl ((HS.out _).2 (.inr (by rw [h9]; rfl)))
        · exact .inr (by rw [h9.1]; exact B3.out.size)
    have FF := Lib.hid FIN
    have KK := Lib.hid KEP
    have NN := Lib.hid NEW
    clear FIN KEP NEW P1 Z4 hg1
    go_wp2
    go_end0
    exact ⟨rfl, _, FF.out, KK.out, NN.out⟩

theorem eg_where1 : ∀ args w, (callFunc 49 args).run Tryz.prog w = .ok (.enter 49 args) w := enters_of Tryz.func49 (by kernel_rfl) rfl
theorem enc_row (P : List ByteArray) : P.map Value.string = (P.map (·.data.toList)).map encStr := by
  rw [List.map_map]; exact List.map_congr_left fun x _ => rfl
/-- Sorted bytes of distinct strings, as an ascending list. -/
theorem ascOf_sort {P : List ByteArray} (hn : P.Nodup) : AscOf ((sortN (P.map (·.data.toList))).map fun l => ⟨l.toArray⟩) P := by
  constructor
  · unfold Asc
    rw [List.pairwise_map]
    have h1 := sortN_sorted (P.map (·.data.toList))
    have h2 : (sortN (P.map (·.data.toList))).Nodup := by
      have h3 : (P.map (·.data.toList)).Nodup := by
        unfold List.Nodup
        rw [List.pairwise_map]
        exact List.Pairwise.imp (fun h e => h (bytes_ext e)) hn
      exact (List.mergeSort_perm _ _).nodup_iff.2 h3
    unfold List.Nodup at h2
    refine List.Pairwise.imp ?_ (h1.and h2)
    rintro a b ⟨h4, h5⟩
    have h6 := lt_of_le_ne8 h4 h5
    cases hh : ltS ⟨a.toArray⟩ ⟨b.toArray⟩ with
    | true => rfl
    | false =>
      have := ltS_not.1 hh
      simp at this
      exact absurd h6 (by simpa using this)
  · intro x
    rw [List.mem_map]
    constructor
    · rintro ⟨l, hl, rfl⟩
      obtain ⟨y, hy, rfl⟩ := List.mem_map.1 ((sortN_mem _ _).1 hl)
      rw [show (⟨y.data.toList.toArray⟩ : ByteArray) = y from bytes_ext (by simp)]
      exact hy
    · intro hx
      exact ⟨x.data.toList, (sortN_mem _ _).2 (List.mem_map.2 ⟨x, hx, rfl⟩), bytes_ext (by simp)⟩

end Go.Proofs.YtoeiaffkedkepaaGreatDoor

/- pathsWhere at every valid tree: the paths of the wanted inodes in ascending order. Conditions: the function that says which inodes are wanted says so in every later world; the tree's cells lie in memory as they read. -/
namespace Go.Proofs.YtoeiaffkedkepaaGreatDoor
open Go.RowKit Go.Sort

theorem whereV {w : World} {gw : FuncId} {capsw : Array Value} {want : Nat → Bool} (hw : Wants gw capsw want w) {pw pp : Nat} (d1 : w.heap.size ≤ pw) (d2 : pw < pp) {t : Tr} (hd : Head t) (hp4 : Pass t 4) :
    VisG t 0 49 #[.pointer (some ⟨pw, 0, none⟩), .pointer (some ⟨pp, 0, none⟩)] (pp + 1) (fun W L S => WI w (.func (.func gw) #[] capsw) want pw pp W L S) (fun L p => L ++ [p]) [] := by
  have o2 := Pass.ok2 hd (hp4.mono (by omega))
  refine ⟨eg_where1, fun W L S hI b hb => ?_, fun W W' L S hI hb hS => ?_, fun W L S xs n v hH hI hr hx hv hpos => ?_⟩
  · obtain ⟨pv, B, ow, op, own, hS⟩ := hI
    rcases (hS b).1 hb with h | h
    · rw [h]; exact op.lt
    · exact own_in own b h
  · obtain ⟨pv, B, ow, op, own, hs⟩ := hI
    exact ⟨pv, B.trans (hb.mono (by omega)), ow.below hb (by omega), op.below hb (by omega), own_block own (fun g hg _ => hS g ((hs g).2 (.inr hg))), hs⟩
  · obtain ⟨l1, l2, e1, e2⟩ := hpos
    rw [foldl_snoc, List.nil_append] at e2
    subst e2
    have h6 := len_visits o2.toOk1 o2.from0
    rw [e1, List.length_append] at h6
    exact where1_any w gw capsw want hw pw pp d1 d2 hd hp4 W L S xs n v hH hI hr hx hv (by omega)

/-- What SortPost says, and that the row is the call's own. -/
def OwnPost (L : List ByteArray) (w : World) (e : Ending) (w' : World) : Prop := ∃ v P, e = .returned v ∧ AscOf P L ∧ Strs w' w'.heap.size v P ∧ (∀ q, v.ownBlock = some q → w.heap.size ≤ q) ∧ Below w.heap.size w w' ∧ w'.ownsRow w.heap.size 9 1 v P.length (P.map Value.string)

set_option maxRecDepth 100000 in
set_option maxHeartbeats 3200000 in
theorem pathsWhere_own (a : Option Addr) (c : Nat) (t : Tr) (w : World) (hd : Head t) (hp4 : Pass t 4) (h : Nods w w.heap.size a c t) (gw : FuncId) (capsw : Array Value) (want : Nat → Bool) (hw : Wants gw capsw want w) :
    Calls Tryz.prog 29 #[.agg #[.slice a t.length c], .func (.func gw) #[] capsw] w (OwnPost (pathsW want (visits t 0)) w) := by
  have o2 := Pass.ok2 hd (hp4.mono (by omega))
  have hnd := pathsW_nodup o2.toOk1 o2.from0 want (List.Perm.refl (visits t 0))
  have hfits := pathsW_fits o2.toOk1 o2.from0 (want := want) (List.Perm.refl (visits t 0))
  have hl6 := len_visits o2.toOk1 o2.from0
  have hll := pathsW_len want (visits t 0)
  have H := Lib.hid h
  have HW := Lib.hid hw
  have HD := Lib.hid hd
  have HP := Lib.hid hp4
  have HO2 := Lib.hid o2
  clear h hw hd hp4 o2
  have BB := Lib.hid (show Below w.heap.size w (((w.alloc (.cells #[.slice a t.length c] 24)).alloc (.cells #[.func (.func gw) #[] capsw] 62)).alloc (.cells #[.slice none 0 0] 26)) from
    (((Below.refl _ _).alloc (Nat.le_refl _) _).alloc (by first | omega | (simp; done) | (simp; omega)) _).alloc (by first | omega | (simp; done) | (simp; omega)) _)
  have II := Lib.hid (show WI w (.func (.func gw) #[] capsw) want (w.heap.size + 1) (w.heap.size + 1 + 1) (((w.alloc (.cells #[.slice a t.length c] 24)).alloc (.cells #[.func (.func gw) #[] capsw] 62)).alloc (.cells #[.slice none 0 0] 26)) [] (fun b => b = w.heap.size + 1 + 1) from
    ⟨.slice none 0 0, BB.out, ((One.new (w.alloc _) _ _).alloc _).at_ (by simp), (One.new ((w.alloc _).alloc _) _ _).at_ (by simp), ⟨rfl, .inl ⟨rfl, rfl⟩⟩, fun b => ⟨fun h => .inl h, fun h => by
      rcases h with h | h
      · exact h
      · simp [Value.ownBlock] at h⟩⟩)
  go_enter Tryz.func29, Tryz.ntmps29
  go_wp2_with fail
  have HWK := walkG_any (whereV HW.out (pw := w.heap.size + 1) (pp := w.heap.size + 1 + 1) (by omega) (by omega) HD.out HP.out) HO2.out.toOk1 HO2.out.from0 (Bt := w.heap.size) (by omega) a c _ _ (fun b hb => by omega) (H.out.below BB.out) (by first | omega | (simp; done) | (simp; omega)) II.out
  refine HWK.mono ?_
  rintro e W5 ⟨rfl, S', I5, K5, N5⟩
  rw [foldl_snoc, List.nil_append] at I5
  obtain ⟨pv, B, ow, op, own, hS⟩ := I5
  clear HWK K5 N5 hS ow II BB
  generalize pathsW want (visits t 0) = P at *
  have oc := op.c0
  have ol := op.lt
  rw [enc_row] at own
  have hlen : (P.map (·.data.toList)).length = P.length := by simp
  by_cases hv : pv = .slice none 0 0
  · have h0 : P.length = 0 := by
      rcases own.2 with ⟨_, h0⟩ | ⟨g, cap, cur, hv2, _⟩
      · exact h0
      · rw [hv] at hv2; cases hv2
    subst hv
    have HL := Lib.hid (List.eq_nil_of_length_eq_zero h0)
    have c1 := Tryz.slices_Sort_string_none none 0 W5
    have BH := Lib.hid B
    clear own h0 hlen hnd hfits B
    go_wp2_with fail
    refine c1.mono ?_
    rintro e w4 ⟨rfl, rfl⟩
    go_wp2
    go_ret
    exact ⟨_, [], rfl, by rw [HL.out]; exact ⟨List.Pairwise.nil, fun x => Iff.rfl⟩, ⟨none, 0, rfl, by simp, by simp, by simp, fun h => absurd h (by simp)⟩, fun q hq => by simp [Value.ownBlock] at hq, BH.out, ⟨rfl, .inl ⟨rfl, rfl⟩⟩⟩
  · obtain ⟨g, cap, rfl, hbg, hgl, hncap, hcm, hlen2, hH⟩ := Lib.holds_of_ownsRow own hv
    rcases own.2 with ⟨h0, _⟩ | ⟨g', cap', cur, hv2, hbase, hb, h1, h2, h3, h4⟩
    · cases h0
    cases hv2
    have hsort := Tryz.slices_Sort_string g 0 cap (P.map (·.data.toList)) W5 hH hgl (by omega)
    rw [hlen] at hsort
    have hl2 : (sortN (P.map (·.data.toList))).length = P.length := by unfold sortN; rw [List.length_mergeSort, hlen]
    have HSN := Lib.hid (show sortN (P.map (·.data.toList)) = (P.map (·.data.toList)).mergeSort fun x y => decide (x ≤ y) from rfl)
    rw [← HSN.out] at hsort
    have hO2 := fun n os => ownsRow_sorted (n := n) (os := os) (ts := sortN (P.map (·.data.toList))) (ss := P.map (·.data.toList)) (by rw [hl2, hlen]) hbase hb (by rw [hlen]; exact h1) h2 h3
    have hG := fun n os => grownBy_sorted (w := W5) (g := g) (n := n) (os := os) (sortN (P.map (·.data.toList))).toArray
    have hAS := ascOf_sort hnd
    have hfs : ∀ x ∈ (sortN (P.map (·.data.toList))).map (fun l => (⟨l.toArray⟩ : ByteArray)), x.size ≤ maxLen := fun x hx => hfits x ((hAS.2 x).1 hx)
    have hne : w.heap.size + 1 + 1 ≠ g := by omega
    have HEND := Lib.hid (show ∀ n os, OwnPost P w (.returned (.slice (some ⟨g, 0, none⟩) P.length cap)) (grow (putRow encStr (Sort.ahead W5 n) g 0 (sortN (P.map (·.data.toList))).toArray) os) from fun n os => by
      have h5 := hO2 n os
      rw [hlen, show (sortN (P.map (·.data.toList))).map encStr = ((sortN (P.map (·.data.toList))).map (fun l => (⟨l.toArray⟩ : ByteArray))).map Value.string from by rw [List.map_map]; exact List.map_congr_left fun x _ => by simp [encStr]] at h5
      refine ⟨_, _, rfl, hAS, strs_row h5 hfs (by rw [List.length_map, hl2]; omega), fun q hq => by (have e9 : g = q := by injection hq); omega, B.grown (hG n os) B.size (fun j hj => by cases hj; omega), ?_⟩
      have h6 : ((sortN (P.map (·.data.toList))).map (fun l => (⟨l.toArray⟩ : ByteArray))).length = P.length := by rw [List.length_map, hl2]
      rw [h6]
      exact own_le h5 (by omega))
    have HOP := Lib.hid (show ∀ n os, One (grow (putRow encStr (Sort.ahead W5 n) g 0 (sortN (P.map (·.data.toList))).toArray) os) (w.heap.size + 1 + 1) (.slice (some ⟨g, 0, none⟩) P.length cap) from fun n os => op.grown (hG n os) (fun e => by injection e with e; exact hne e))
    have HSORT := Lib.hid hsort
    clear hsort hO2 hG hAS hfs hH hb h1 h2 h3 h4 hfits hnd own B op
    go_wp2_with fail
    refine HSORT.out.mono ?_
    rintro e w4 ⟨rfl, n, os, rfl⟩
    have oc2 := (HOP.out n os).c0
    have ol2 := (HOP.out n os).lt
    have HE := Lib.hid (HEND.out n os)
    clear HEND HOP HSORT
    generalize grow (putRow encStr (Sort.ahead W5 n) g 0 (sortN (P.map (·.data.toList))).toArray) os = w6 at *
    go_wp2
    go_ret
    exact HE.out

theorem pathsWhere_any (a : Option Addr) (c : Nat) (t : Tr) (w : World) (hd : Head t) (hp4 : Pass t 4) (h : Nods w w.heap.size a c t) (gw : FuncId) (capsw : Array Value) (want : Nat → Bool) (hw : Wants gw capsw want w) :
    Calls Tryz.prog 29 #[.agg #[.slice a t.length c], .func (.func gw) #[] capsw] w (SortPost (pathsW want (visits t 0)) w) :=
  (pathsWhere_own a c t w hd hp4 h gw capsw want hw).mono fun _ _ ⟨v, P, he, ha, hs, hl, hb, _⟩ => ⟨v, P, he, ha, hs, hl, hb⟩

end Go.Proofs.YtoeiaffkedkepaaGreatDoor

/- AllPaths at every tree: the fault, or the paths in ascending order. Conditions: the tree's cells lie in memory as they read. -/
namespace Go.Proofs.YtoeiaffkedkepaaGreatDoor
open Go.RowKit

/-- What AllPaths and PathsOf leave: the fault f, or the wanted paths. -/
def PathsPost (t : Tr) (f : Int × Int) (want : Nat → Bool) (w : World) (e : Ending) (w' : World) : Prop :=
  (f.1 ≠ 0 ∧ e = .returned (.tuple #[.slice none 0 0, faultV f.1 f.2]) ∧ Below w.heap.size w w') ∨
  (f = (0, 0) ∧ ∃ v P, e = .returned (.tuple #[v, faultV 0 0]) ∧ AscOf P (pathsW want (visits t 0)) ∧ Strs w' w'.heap.size v P ∧ Below w.heap.size w w')

/-- What PathsPost says, and that the row is the call's own. -/
def PathsOwn (t : Tr) (f : Int × Int) (want : Nat → Bool) (w : World) (e : Ending) (w' : World) : Prop :=
  (f.1 ≠ 0 ∧ e = .returned (.tuple #[.slice none 0 0, faultV f.1 f.2]) ∧ Below w.heap.size w w') ∨
  (f = (0, 0) ∧ ∃ v P, e = .returned (.tuple #[v, faultV 0 0]) ∧ AscOf P (pathsW want (visits t 0)) ∧ Strs w' w'.heap.size v P ∧ Below w.heap.size w w' ∧ w'.ownsRow w.heap.size 9 1 v P.length (P.map Value.string))
theorem PathsOwn.plain {t : Tr} {f : Int × Int} {want : Nat → Bool} {w : World} {e : Ending} {w' : World} (h : PathsOwn t f want w e w') : PathsPost t f want w e w' := by
  rcases h with h | ⟨h, v, P, h1, h2, h3, h4, _⟩
  · exact .inl h
  · exact .inr ⟨h, v, P, h1, h2, h3, h4⟩

theorem wantsAll (w : World) : Wants 30 #[] (fun _ => true) w := by
  refine ⟨enters_of Tryz.func30 (by kernel_rfl) rfl, fun W n _ => ?_⟩
  show Calls Tryz.prog 30 #[.int .i64 ((n : Nat) : Int)] W _
  go_enter Tryz.func30, Tryz.ntmps30
  go_wp2
  go_ret
  exact ⟨rfl, rfl⟩
set_option maxRecDepth 100000 in
set_option maxHeartbeats 1600000 in
theorem allPaths_own (a : Option Addr) (c : Nat) (t : Tr) (w : World) (h : Nods w w.heap.size a c t) :
    Calls Tryz.prog 13 #[.agg #[.slice a t.length c]] w (PathsOwn t (valT t) (fun _ => true) w) := by
  have C1 := Lib.hid (fun W (hb : Below w.heap.size w W) => validT_any a c t W (h.up hb))
  have T0 := Lib.hid (show One ((w.alloc (.cells #[.slice a t.length c] 24)).alloc (.cells #[.int .i64 0, .int .i64 0] 28)) w.heap.size (.slice a t.length c) from (One.new w _ _).alloc _)
  have F0 := Lib.hid (show FBox ((w.alloc (.cells #[.slice a t.length c] 24)).alloc (.cells #[.int .i64 0, .int .i64 0] 28)) (w.heap.size + 1) 0 0 from (FBox.new (w.alloc _) 0 0 _).at_ (by simp))
  have B0 := Lib.hid (show Below w.heap.size w ((w.alloc (.cells #[.slice a t.length c] 24)).alloc (.cells #[.int .i64 0, .int .i64 0] 28)) from ((Below.refl _ _).alloc (Nat.le_refl _) _).alloc (by first | omega | (simp; done) | (simp; omega)) _)
  by_cases hq : (valT t).1 = 0
  · obtain ⟨hd, p4⟩ := valT_ok hq
    have hz := valT_zero hq
    have C2 := Lib.hid (fun W (hb : Below w.heap.size w W) => pathsWhere_own a c t W hd p4 (h.up hb) _ _ _ (wantsAll W))
    unfold OwnPost at C2
    rw [hz] at C1 ⊢
    clear hd p4 hq hz h
    unfold faultV at C1
    go_enter Tryz.func13, Tryz.ntmps13
    go_wp2_with fail
    refine (C1.out _ B0.out).mono ?_
    rintro e W1 ⟨rfl, b1⟩
    have T1 := Lib.hid (T0.out.below b1 T0.out.lt)
    have F1 := Lib.hid (F0.out.below b1 F0.out.lt)
    have B1 := Lib.hid (B0.out.trans (b1.mono B0.out.size))
    have tc := T1.out.c0
    have tl := T1.out.lt
    have hs1 := B1.out.size
    clear b1
    go_wp2_with fail
    refine (C2.out _ (B1.out.alloc hs1 _)).mono ?_
    rintro e W2 ⟨v, P, rfl, ha, hs, hlow, b2, hown⟩
    have F2 := Lib.hid ((F1.out.alloc (.cells #[.int .i64 0, .int .i64 0] 28)).below b2 (by have := F1.out.lt; simp; omega))
    have hfl := F1.out.lt
    have B2 := Lib.hid ((B1.out.alloc hs1 (.cells #[.int .i64 0, .int .i64 0] 28)).trans (b2.mono (by simp; omega)))
    obtain ⟨l9, a0, a1, f0, f1⟩ := F2.out
    have HA := Lib.hid ha
    have HS := Lib.hid (show Strs ((W2.setCell ⟨w.heap.size + 1, 0, none⟩ (.int .i64 0)).setCell ⟨w.heap.size + 1, 1, none⟩ (.int .i64 0)) W2.heap.size v P from
      (hs.setLow hlow (p := ⟨w.heap.size + 1, 0, none⟩) (by simp; omega) _).setLow hlow (p := ⟨w.heap.size + 1, 1, none⟩) (by simp; omega) _)
    have HO := Lib.hid (ownsRow_setCell_below (ownsRow_setCell_below hown (a := ⟨w.heap.size + 1, 0, none⟩) (by simp; omega) (.int .i64 0)) (a := ⟨w.heap.size + 1, 1, none⟩) (by simp; omega) (.int .i64 0))
    clear ha hs hlow b2 tc tl hown
    go_wp2
    exact bodyPost_ret (v := .tuple #[v, faultV 0 0]) (by simp [results, Tryz.results13, faultV, go_sem, a0, a1]) rfl (.inr ⟨rfl, v, P, rfl, HA.out, by simpa using HS.out, (B2.out.setCell (by first | omega | (simp; done) | (simp; omega)) _).setCell (by first | omega | (simp; done) | (simp; omega)) _, own_le HO.out (by simp; omega)⟩)
  · have hq1 : ((valT t).1 != 0) = true := by simpa using hq
    have hq2 : ((valT t).1 == 0) = false := by simpa using hq
    have HQ := Lib.hid hq
    clear h hq
    unfold faultV at C1
    have HR := Lib.hid (show valT t = ((valT t).1, (valT t).2) from rfl)
    rw [HR.out]
    clear HR
    generalize (valT t).1 = q at *
    generalize (valT t).2 = r at *
    go_enter Tryz.func13, Tryz.ntmps13
    go_wp2_with fail
    refine (C1.out _ B0.out).mono ?_
    rintro e W1 ⟨rfl, b1⟩
    have F1 := Lib.hid (F0.out.below b1 F0.out.lt)
    have B1 := Lib.hid (B0.out.trans (b1.mono B0.out.size))
    obtain ⟨l9, a0, a1, f0, f1⟩ := F1.out
    have hs1 := B1.out.size
    clear b1
    go_wp2
    go_region
    go_wp2
    exact bodyPost_ret (v := .tuple #[.slice none 0 0, faultV q r]) (by simp [results, Tryz.results13, faultV, go_sem, a0, a1, l9]) rfl (.inl ⟨HQ.out, rfl, by repeat (first | exact B1.out | refine Below.setCell ?_ (by first | omega | (simp; done) | (simp; omega)) _ | refine Below.alloc ?_ (by first | omega | (simp; done) | (simp; omega)) _ | refine Below.drew ?_)⟩)

theorem allPaths_any (a : Option Addr) (c : Nat) (t : Tr) (w : World) (h : Nods w w.heap.size a c t) :
    Calls Tryz.prog 13 #[.agg #[.slice a t.length c]] w (PathsPost t (valT t) (fun _ => true) w) :=
  (allPaths_own a c t w h).mono fun _ _ h => h.plain

theorem PathsPost.bad {t : Tr} {f : Int × Int} {want : Nat → Bool} {w : World} {e : Ending} {w' : World} (h : PathsPost t f want w e w') (hf : f.1 ≠ 0) : e = .returned (.tuple #[.slice none 0 0, .agg #[.int .i64 f.1, .int .i64 f.2]]) ∧ Below w.heap.size w w' := by
  rcases h with ⟨_, h1, h2⟩ | ⟨h1, _⟩
  · exact ⟨h1, h2⟩
  · exact absurd (by rw [h1]) hf
theorem PathsPost.good {t : Tr} {f : Int × Int} {want : Nat → Bool} {w : World} {e : Ending} {w' : World} (h : PathsPost t f want w e w') (hf : f.1 = 0) : ∃ v P, e = .returned (.tuple #[v, .agg #[.int .i64 0, .int .i64 0]]) ∧ AscOf P (pathsW want (visits t 0)) ∧ Strs w' w'.heap.size v P ∧ Below w.heap.size w w' := by
  rcases h with ⟨h1, _⟩ | ⟨_, h1⟩
  · exact absurd hf h1
  · exact h1
theorem AscOf.same {P Q L : List ByteArray} (h1 : AscOf P L) (h2 : AscOf Q L) : P = Q := asc_unique h1.1 h2.1 (fun x => (h1.2 x).trans (h2.2 x).symm)

end Go.Proofs.YtoeiaffkedkepaaGreatDoor

/- glob.Find at every tree and pattern: the fault, or the paths that match in ascending order. Conditions: the library's variable that bounds a search holds an int; the tree's cells lie in memory as they read; the pattern is of at most the model's longest length. -/
namespace Go.Proofs.YtoeiaffkedkepaaGreatDoor
open Go.RowKit

/-! ## plain -/
theorem Gshort_of {xs : List ByteArray} (h : joinV xs = .tuple #[.string (bP xs), faultV 0 0]) : compFault xs = (0, 0) ∧ ¬ 100 < (pstr xs).length := by
  unfold joinV faultV at h
  have h1 : (joinF xs).1 = 0 := by
    simp at h
    exact h.2.1
  unfold joinF at h1
  by_cases hc : (compFault xs).1 = 0
  · rw [if_pos hc] at h1
    refine ⟨Prod.ext hc (compFault_ok hc).2.1, fun hl => ?_⟩
    rw [if_pos hl] at h1; cases h1
  · rw [if_neg hc] at h1
    exact absurd h1 hc
theorem parts_names : ∀ (l : List (List UInt8)), (∀ p ∈ l, p ≠ []) → l.filter full = l := fun l h => by
  rw [List.filter_eq_self]
  intro p hp
  unfold full
  cases p with
  | nil => exact absurd rfl (h _ hp)
  | cons a b => rfl
theorem parts_pstr {xs : List ByteArray} (h : ∀ x ∈ xs, vname x = true) : parts (pstr xs) = xs := by
  cases xs with
  | nil =>
    have : pstr [] = [47] := rfl
    rw [this]; rfl
  | cons x ys =>
    have hp : pstr (x :: ys) = 47 :: (x.data.toList ++ ys.flatMap fun y => 47 :: y.data.toList) := by
      unfold pstr; rw [if_neg (by simp), List.flatMap_cons, List.cons_append]
    unfold parts
    rw [hp, pieces_slash, pieces_names x ys h, List.filter_cons, if_neg (by simp [full])]
    rw [parts_names _ (fun p hp => by
      obtain ⟨y, hy, rfl⟩ := List.mem_map.1 hp
      have := (vname_size (h y hy)).1
      intro e
      have h2 : y.data.toList.length = y.size := by simp
      rw [e] at h2; simp at h2; omega), List.map_map]
    have : (toB ∘ fun x : ByteArray => x.data.toList) = id := by funext x; exact toB_of x
    rw [this, List.map_id]
/-- A path of a valid tree: it is short, and it splits into its parts. -/
theorem path_parts {t : Tr} (hd : Head t) (p4 : Pass t 4) {x : ByteArray} {want : Nat → Bool} (hx : x ∈ pathsW want (visits t 0)) : splitL x = parts x.data.toList ∧ x.size ≤ 100 := by
  unfold pathsW at hx
  obtain ⟨p, hp, rfl⟩ := List.mem_map.1 hx
  have o2 := Pass.ok2 hd (p4.mono (by omega))
  have hr := (mem_visits o2.fin (ys := p.1) (m := p.2)).1 (List.mem_filter.1 hp).1
  obtain ⟨h1, h2⟩ := Gshort_of (Pass.joins hd p4 hr)
  obtain ⟨h3, h4⟩ := split_join h1 h2
  have e : bP p.1 = toB (pstr p.1) := rfl
  have e2 : (bP p.1).data.toList = pstr p.1 := by rw [e, toB_data]
  refine ⟨?_, ?_⟩
  · rw [e2, parts_pstr (compFault_ok (by rw [h1])).2.2, e, h4]
  · have h5 : (toB (pstr p.1)).size = (pstr p.1).length := rfl
    rw [e, h5]; omega
theorem parts_size {l : List UInt8} {x : ByteArray} (h : x ∈ parts l) : x.size ≤ l.length := by
  rw [parts_comps] at h
  exact comps_size (List.mem_filter.1 h).1
theorem parts_len (l : List UInt8) : (parts l).length ≤ l.length + 1 := by
  rw [parts_comps]
  exact Nat.le_trans (List.length_filter_le _ _) (comps_len_le l)

/-- Which of the paths match. -/
def keepP (p x : ByteArray) : Bool := lmC (parts p.data.toList) (parts x.data.toList)
def findF (t : Tr) (p : ByteArray) : Int × Int :=
  if (valT t).1 ≠ 0 then valT t else if 100 < p.size then (2, -1) else if Lib.hasPrefix p.data.toList [47] then (0, 0) else (5, -1)
/-- What Find leaves. -/
def FindPost (t : Tr) (p : ByteArray) (w : World) (e : Ending) (w' : World) : Prop :=
  ((findF t p).1 ≠ 0 ∧ e = .returned (.tuple #[.slice none 0 0, faultV (findF t p).1 (findF t p).2]) ∧ Below w.heap.size w w') ∨
  (findF t p = (0, 0) ∧ ∃ v P, e = .returned (.tuple #[v, faultV 0 0]) ∧ AscOf P (pathsW (fun _ => true) (visits t 0)) ∧ Strs w' w'.heap.size v (P.filter (keepP p)) ∧ Below w.heap.size w w')

/-! ## in memory -/
theorem Strs.but {w w' : World} {B g : Nat} {v : Value} {xs : List ByteArray} (h : Strs w B v xs) (hB : B ≤ w.heap.size) (hg : w.grownBy w' (some g)) (hn : v.ownBlock ≠ some g) : Strs w' B v xs := by
  obtain ⟨a, c, rfl, hc, hl, hf, hcell⟩ := h
  refine ⟨a, c, rfl, hc, hl, hf, fun h0 => ?_⟩
  obtain ⟨b, o, rfl, hb, hcl⟩ := hcell h0
  exact ⟨b, o, rfl, hb, fun j hj => hg.cell (hcl j hj) hn⟩
theorem One.but {w w' : World} {n g : Nat} {v : Value} (h : One w n v) (hg : w.grownBy w' (some g)) (hn : n ≠ g) : One w' n v := h.grown hg (fun e => hn (by injection e))
theorem GM.but {w w' : World} {g : Nat} (h : GM w) (hg : w.grownBy w' (some g)) (hn : 0 ≠ g) : GM w' := by
  obtain ⟨hl, m, hm⟩ := h
  exact ⟨Nat.lt_of_lt_of_le hl hg.size, m, hg.cell hm (fun e => hn (by injection e))⟩
theorem row_of_own {w : World} {base : Nat} {v : Value} {P : List ByteArray} (h : w.ownsRow base 9 1 v P.length (P.map Value.string)) (hP : P ≠ []) :
    ∃ g c, v = .slice (some ⟨g, 0, none⟩) P.length c ∧ base ≤ g ∧ P.length ≤ c ∧ c ≤ maxLen ∧ Row w g P.length (fun j => .string (P.getD j ByteArray.empty)) := by
  rcases h.2 with ⟨_, h0⟩ | ⟨g, c, cur, rfl, hb, hg, hn, hm, hs, ht⟩
  · exact absurd (List.eq_nil_of_length_eq_zero h0) hP
  · refine ⟨g, c, rfl, hb, hn, hm, ?_, fun j hj => ?_, fun j => ?_⟩
    · rcases Nat.lt_or_ge g w.heap.size with h' | h'
      · exact h'
      · rw [Array.getElem?_eq_none h'] at hg; cases hg
    · have := h.cells (g := g) rfl j (.string (P.getD j ByteArray.empty)) (by rw [List.getElem?_map, getD_eq hj, List.getElem?_eq_getElem hj]; rfl)
      rwa [show ((⟨g, 0, none⟩ : Addr).add j) = ⟨g, j, none⟩ from by unfold Addr.add; simp; intro h; exact h.symm] at this
    · simp [World.frozen?, hg]
theorem strs_of_row {w : World} {g c : Nat} {xs : List ByteArray} (R : Row w g xs.length (fun j => .string (xs.getD j ByteArray.empty))) (hc : xs.length ≤ c) (hl : xs.length ≤ 35184372088832) (hf : ∀ x ∈ xs, x.size ≤ maxLen) :
    Strs w w.heap.size (.slice (some ⟨g, 0, none⟩) xs.length c) xs :=
  ⟨_, c, rfl, hc, hl, hf, fun _ => ⟨g, 0, rfl, R.lt, fun j hj => by rw [Nat.zero_add]; exact R.c j hj⟩⟩

theorem find1_any (x : Nat) (W : World) (hx : x ≤ 1114111) :
    Calls Tryz.prog 16 #[.int .i32 x] W fun e w' => e = .returned (.bool (p47 x)) ∧ W = w' := by
  go_enter Tryz.func16, Tryz.ntmps16
  go_wp2
  go_ret
  refine ⟨ret_bool ?_, rfl⟩
  unfold p47
  rw [Bool.eq_iff_iff]; simp; omega
theorem eg_find1 : ∀ args w, (callFunc 16 args).run Tryz.prog w = .ok (.enter 16 args) w := enters_of Tryz.func16 (by kernel_rfl) rfl
theorem fields_any (p : ByteArray) (w : World) (hp : p.size ≤ 100) :
    Calls Tryz.prog 15 #[.string p, .func (.func 16) #[] #[]] w fun e w' => ∃ A, e = .returned (.slice (some ⟨A, 0, none⟩) (parts p.data.toList).length (parts p.data.toList).length) ∧ w.heap.size ≤ A ∧
      Strs w' w'.heap.size (.slice (some ⟨A, 0, none⟩) (parts p.data.toList).length (parts p.data.toList).length) (parts p.data.toList) ∧ Below w.heap.size w w' := by
  refine (Tryz.strings_FieldsFunc_runes 16 #[] eg_find1 p47 p w (by omega) (fun W x hx _ => ?_)).mono ?_
  · exact (find1_any x W hx).mono fun e w' ⟨he, hw⟩ => ⟨he, 0, hw ▸ rfl⟩
  · rintro e w' ⟨A, he, hA, hown, hb⟩
    rw [goFields_parts] at he hown
    have hsz : p.data.toList.length = p.size := by simp
    have hl := parts_len p.data.toList
    refine ⟨A, he, hA, strs_row hown (fun x hx => ?_) (by omega), hb⟩
    have := parts_size hx
    unfold maxLen; omega

set_option maxHeartbeats 800000 in
theorem find2_any (p x : ByteArray) (v : Value) (n : Nat) (w : World) (gm : GM w) (hp : p.size ≤ 100) (hx : x.size ≤ 100) (hs : splitL x = parts x.data.toList) (h1 : One w n v) (h : Strs w w.heap.size v (parts p.data.toList)) :
    Calls Tryz.prog 17 #[.string x, .pointer (some ⟨n, 0, none⟩)] w fun e w' => e = .returned (.bool (!(keepP p x))) ∧ Below w.heap.size w w' := by
  have hpl : p.data.toList.length = p.size := by simp
  have hxl : x.data.toList.length = x.size := by simp
  have C1 := Lib.hid (fun W (hb : Below w.heap.size w W) => pathSplit_any x W (gm.below hb) (by unfold maxLen; omega))
  unfold SplitPost at C1
  rw [hs] at C1
  have C2 := Lib.hid (fun W u (g : Strs W W.heap.size u (parts x.data.toList)) (hv : Strs W W.heap.size v (parts p.data.toList)) => matchComps_any v u (parts p.data.toList) (parts x.data.toList) W hv g
    (fun y hy => by have := parts_size hy; omega) (fun y hy => by have := parts_size hy; omega) (by have := parts_len p.data.toList; omega) (by have := parts_len x.data.toList; omega))
  have HV := Lib.hid h
  have H1 := Lib.hid h1
  have HK := Lib.hid (show keepP p x = lmC (parts p.data.toList) (parts x.data.toList) from rfl)
  obtain ⟨va, vc, rfl, _⟩ := h
  clear h1 hs gm
  generalize (splitF x).1 = c at *
  generalize (splitF x).2 = i at *
  go_enter Tryz.func17, Tryz.ntmps17
  go_wp2_with fail
  refine (C1.out _ (Below.refl _ _)).mono ?_
  rintro e w1 ⟨u, rfl, S1, b1, _⟩
  have B1 := Lib.hid (b1.alloc b1.size (.cells #[.int .i64 c, .int .i64 i] 28))
  have S1' := Lib.hid ((S1.alloc (Nat.le_refl _) (.cells #[.int .i64 c, .int .i64 i] 28)).more (B' := (w1.alloc (.cells #[.int .i64 c, .int .i64 i] 28)).heap.size) (by simp))
  have V1 := Lib.hid ((HV.out.below B1.out).more B1.out.size)
  have o1 := (H1.out.below B1.out H1.out.lt).c0
  have l1 := (H1.out.below B1.out H1.out.lt).lt
  obtain ⟨ua, uc, rfl, _⟩ := S1
  clear b1
  go_wp2_with fail
  refine (C2.out _ _ S1'.out V1.out).mono ?_
  rintro e w2 ⟨rfl, b2⟩
  go_wp2
  go_ret
  exact ⟨ret_bool (by rw [HK.out]), B1.out.trans (b2.mono B1.out.size)⟩
theorem eg_find2 : ∀ args w, (callFunc 17 args).run Tryz.prog w = .ok (.enter 17 args) w := enters_of Tryz.func17 (by kernel_rfl) rfl

theorem hasSlash (l : List UInt8) : Lib.hasPrefix l [47] = true ↔ ∃ r, l = 47 :: r := by
  cases l with
  | nil => simp [Lib.hasPrefix]
  | cons c r =>
    unfold Lib.hasPrefix
    rw [List.isPrefixOf_cons_cons, Bool.and_eq_true, beq_iff_eq]
    constructor
    · rintro ⟨h, _⟩; exact ⟨r, by rw [← h]⟩
    · rintro ⟨r', h⟩; injection h with h1 h2; exact ⟨h1.symm, rfl⟩

set_option maxRecDepth 100000 in
set_option maxHeartbeats 3200000 in
theorem find_any (a : Option Addr) (c : Nat) (t : Tr) (p : ByteArray) (w : World) (gm : GM w) (h : Nods w w.heap.size a c t) (hp : p.size ≤ maxLen) :
    Calls Tryz.prog 5 #[.agg #[.slice a t.length c], .string p] w (FindPost t p w) := by
  have C1 := Lib.hid (fun W (hb : Below w.heap.size w W) => allPaths_own a c t W (h.up hb))
  have T0 := Lib.hid (show One ((w.alloc (.cells #[.slice a t.length c] 24)).alloc (.cells #[.int .i64 0, .int .i64 0] 28)) w.heap.size (.slice a t.length c) from (One.new w _ _).alloc _)
  have F0 := Lib.hid (show FBox ((w.alloc (.cells #[.slice a t.length c] 24)).alloc (.cells #[.int .i64 0, .int .i64 0] 28)) (w.heap.size + 1) 0 0 from (FBox.new (w.alloc _) 0 0 _).at_ (by simp))
  have B0 := Lib.hid (show Below w.heap.size w ((w.alloc (.cells #[.slice a t.length c] 24)).alloc (.cells #[.int .i64 0, .int .i64 0] 28)) from ((Below.refl _ _).alloc (Nat.le_refl _) _).alloc (by first | omega | (simp; done) | (simp; omega)) _)
  unfold maxLen at hp
  by_cases hq : (valT t).1 = 0
  · have hz := valT_zero hq
    obtain ⟨hd, p4⟩ := valT_ok hq
    have o2 := Pass.ok2 hd (p4.mono (by omega))
    unfold PathsOwn at C1
    have c1 : ∀ W, Below w.heap.size w W → Calls Tryz.prog 13 #[.agg #[.slice a t.length c]] W (fun e w' => ∃ v P, e = .returned (.tuple #[v, faultV 0 0]) ∧ AscOf P (pathsW (fun _ => true) (visits t 0)) ∧ Strs w' w'.heap.size v P ∧ Below W.heap.size W w' ∧ w'.ownsRow W.heap.size 9 1 v P.length (P.map Value.string)) := fun W hb => (C1.out W hb).mono (fun e w' hh => by
      rcases hh with ⟨h1, _⟩ | ⟨_, h1⟩
      · exact absurd hq h1
      · exact h1)
    clear C1
    unfold faultV at c1
    have C1 := Lib.hid c1
    clear c1
    have hF0 : findF t p = if 100 < p.size then (2, -1) else if Lib.hasPrefix p.data.toList [47] then (0, 0) else (5, -1) := by
      unfold findF; rw [if_neg (by rw [hq]; simp)]
    have HX := Lib.hid (fun (P : List ByteArray) (hP : AscOf P (pathsW (fun _ => true) (visits t 0))) (x : ByteArray) (hx : x ∈ P) => path_parts hd p4 (want := fun _ => true) ((hP.2 x).1 hx))
    have HNE := Lib.hid (show pathsW (fun _ => true) (visits t 0) ≠ [] from fun e => by
      have hm : (([] : List ByteArray), 0) ∈ visits t 0 := (mem_visits o2.fin).2 (.nil)
      have : bP [] ∈ pathsW (fun _ => true) (visits t 0) := List.mem_map.2 ⟨_, List.mem_filter.2 ⟨hm, rfl⟩, rfl⟩
      rw [e] at this; cases this)
    unfold FindPost
    clear h hz hd p4 o2 hq
    generalize pathsW (fun _ => true) (visits t 0) = X at *
    by_cases h1 : 100 < p.size
    · have hF := Lib.hid (show findF t p = (2, -1) by rw [hF0, if_pos h1])
      have h1z : (100 : Int) < (p.size : Int) := by omega
      rw [hF.out]
      clear hF0 hF HX HNE
      go_enter Tryz.func5, Tryz.ntmps5
      go_wp2_with fail
      refine (C1.out _ B0.out).mono ?_
      rintro e W1 ⟨v, P, rfl, ha, hs, b1, hown⟩
      obtain ⟨va, vc, rfl, _⟩ := hs
      have F1 := F0.out.below b1 F0.out.lt
      have B1 := Lib.hid (B0.out.trans (b1.mono B0.out.size))
      have hs1 := B1.out.size
      obtain ⟨l9, a0, a1, f0, f1⟩ := F1
      clear ha b1 hown
      go_wp2
      exact bodyPost_ret (v := .tuple #[.slice none 0 0, faultV 2 (-1)]) (by simp [results, Tryz.results5, faultV, go_sem, a0, a1, l9]) rfl (.inl ⟨by decide, rfl, by repeat (first | exact B1.out | refine Below.setCell ?_ (by first | omega | (simp; done) | (simp; omega)) _ | refine Below.alloc ?_ (by first | omega | (simp; done) | (simp; omega)) _ | refine Below.drew ?_)⟩)
    · have h1z : ¬ (100 : Int) < (p.size : Int) := by omega
      have CH := Lib.hid (fun W => Tryz.strings_HasPrefix p ⟨#[47]⟩ W)
      cases hpre : Lib.hasPrefix p.data.toList [47] with
      | false =>
        have hF := Lib.hid (show findF t p = (5, -1) by rw [hF0, if_neg h1, hpre]; rfl)
        have ch := CH.out
        rw [show ((⟨#[47]⟩ : ByteArray).data.toList) = [47] from rfl, hpre] at ch
        clear CH
        have CH := Lib.hid ch
        rw [hF.out]
        clear hF0 hF HX HNE ch hpre
        go_enter Tryz.func5, Tryz.ntmps5
        go_wp2_with fail
        refine (C1.out _ B0.out).mono ?_
        rintro e W1 ⟨v, P, rfl, ha, hs, b1, hown⟩
        obtain ⟨va, vc, rfl, _⟩ := hs
        have F1 := F0.out.below b1 F0.out.lt
        have B1 := Lib.hid (B0.out.trans (b1.mono B0.out.size))
        have hs1 := B1.out.size
        obtain ⟨l9, a0, a1, f0, f1⟩ := F1
        clear ha b1 hown
        go_wp2_with fail
        refine (CH.out _).mono ?_
        rintro e _ ⟨rfl, rfl⟩
        go_wp2
        exact bodyPost_ret (v := .tuple #[.slice none 0 0, faultV 5 (-1)]) (by simp [results, Tryz.results5, faultV, go_sem, a0, a1, l9]) rfl (.inl ⟨by decide, rfl, by repeat (first | exact B1.out | refine Below.setCell ?_ (by first | omega | (simp; done) | (simp; omega)) _ | refine Below.alloc ?_ (by first | omega | (simp; done) | (simp; omega)) _ | refine Below.drew ?_)⟩)
      | true =>
        have hF := Lib.hid (show findF t p = (0, 0) by rw [hF0, if_neg h1, hpre]; rfl)
        have ch := CH.out
        rw [show ((⟨#[47]⟩ : ByteArray).data.toList) = [47] from rfl, hpre] at ch
        clear CH
        have CH := Lib.hid ch
        have CF := Lib.hid (fun W => fields_any p W (by omega))
        have GM0 := Lib.hid gm
        rw [hF.out]
        clear hF0 hF ch hpre gm
        go_enter Tryz.func5, Tryz.ntmps5
        go_wp2_with fail
        refine (C1.out _ B0.out).mono ?_
        rintro e W1 ⟨v, P, rfl, ha, hs, b1, hown⟩
        have hPne : P ≠ [] := fun e => HNE.out (List.eq_nil_iff_forall_not_mem.2 fun x hx => by
          have := (ha.2 x).2 hx
          rw [e] at this; cases this)
        obtain ⟨g, vc, rfl, hg0, hg1, hg2, RP⟩ := row_of_own hown hPne
        obtain ⟨_, _, _, _, hPl, hPf, _⟩ := hs
        have HA := Lib.hid ha
        have HPF := Lib.hid hPf
        have HXP := Lib.hid (HX.out P ha)
        have F1 := F0.out.below b1 F0.out.lt
        have BB1 := B0.out.trans (b1.mono B0.out.size)
        have hs1 := BB1.size
        have hgl := RP.lt
        have hf1 := F1.lt
        have hgw : w.heap.size + 1 < g := by simp at hg0; omega
        have R1 := Lib.hid (RP.alloc (.cells #[.int .i64 0, .int .i64 0] 28))
        have F1' := Lib.hid (F1.alloc (.cells #[.int .i64 0, .int .i64 0] 28))
        have B1 := Lib.hid (BB1.alloc hs1 (.cells #[.int .i64 0, .int .i64 0] 28))
        clear ha b1 hown hPf HX F1 BB1 RP hPne HNE
        go_wp2_with fail
        refine (CH.out _).mono ?_
        rintro e _ ⟨rfl, rfl⟩
        go_wp2_with fail
        refine (CF.out _).mono ?_
        rintro e W2 ⟨A, rfl, hA, SE, b2⟩
        have hW1 : W1.heap.size + 1 = (W1.alloc (.cells #[.int .i64 0, .int .i64 0] 28)).heap.size := by simp
        have R2 := Lib.hid ((R1.out.below b2 R1.out.lt).alloc (.cells #[.slice (some ⟨A, 0, none⟩) (parts p.data.toList).length (parts p.data.toList).length] 26))
        have F2 := Lib.hid ((F1'.out.below b2 F1'.out.lt).alloc (.cells #[.slice (some ⟨A, 0, none⟩) (parts p.data.toList).length (parts p.data.toList).length] 26))
        have BB2 := B1.out.trans (b2.mono B1.out.size)
        have B2 := Lib.hid (BB2.alloc BB2.size (.cells #[.slice (some ⟨A, 0, none⟩) (parts p.data.toList).length (parts p.data.toList).length] 26))
        have O2 := Lib.hid (One.new W2 (.slice (some ⟨A, 0, none⟩) (parts p.data.toList).length (parts p.data.toList).length) 26)
        have S2 := Lib.hid ((SE.alloc (Nat.le_refl _) (.cells #[.slice (some ⟨A, 0, none⟩) (parts p.data.toList).length (parts p.data.toList).length] 26)))
        have hb2 := b2.size
        have hgm := GM0.out.1
        have G2 := Lib.hid (GM0.out.below B2.out)
        have hW2 : W2.heap.size < (W2.alloc (.cells #[.slice (some ⟨A, 0, none⟩) (parts p.data.toList).length (parts p.data.toList).length] 26)).heap.size := by simp
        clear SE b2 BB2 R1 F1' B1 CF CH
        have DEL := Lib.hid (deleteS_any 17 ⟨W2.heap.size, 0, none⟩ eg_find2 (fun x => !(keepP p x)) g vc P (W2.alloc (.cells #[.slice (some ⟨A, 0, none⟩) (parts p.data.toList).length (parts p.data.toList).length] 26)) R2.out hPl hg1 hg2 (fun W x hx hgr => by
          have hxp := HXP.out x hx
          exact find2_any p x _ W2.heap.size W (G2.out.but hgr (by omega)) (by omega) hxp.2 hxp.1 (O2.out.but hgr (by omega)) (((S2.out.but (by omega) hgr (by simp [Value.ownBlock]; omega)).more (by have := hgr.size; omega)))))
        have hnot : (P.filter fun x => !(!(keepP p x))) = P.filter (keepP p) := by congr 1; funext x; simp
        have del := DEL.out
        rw [hnot] at del
        clear DEL hnot
        have DEL := Lib.hid del
        clear del
        go_wp2_with fail
        refine DEL.out.mono ?_
        rintro e W3 ⟨rfl, R3, g3⟩
        have F3 := F2.out.grown g3 (fun e => by injection e; omega)
        have B3 := Lib.hid (B2.out.grown g3 B2.out.size (fun j hj => by cases hj; omega))
        obtain ⟨l9, a0, a1, f0, f1⟩ := F3
        have hfl : (P.filter (keepP p)).length ≤ P.length := List.length_filter_le _ _
        have S3 := Lib.hid (strs_of_row ((R3.far (p := ⟨w.heap.size + 1, 0, none⟩) (by simp; omega) (.int .i64 0)).far (p := ⟨w.heap.size + 1, 1, none⟩) (by simp; omega) (.int .i64 0)) (c := vc) (by omega) (by omega) (fun x hx => HPF.out x (List.mem_filter.1 hx).1))
        clear R3 g3 DEL R2 F2 B2 O2 S2 G2
        go_wp2
        exact bodyPost_ret (v := .tuple #[.slice (some ⟨g, 0, none⟩) (P.filter (keepP p)).length vc, faultV 0 0]) (by simp [results, Tryz.results5, faultV, go_sem, a0, a1, l9]) rfl (.inr ⟨by first | trivial | rfl, _, P, rfl, HA.out, S3.out, (B3.out.setCell (by first | omega | (simp; done) | (simp; omega)) _).setCell (by first | omega | (simp; done) | (simp; omega)) _⟩)
  · have HFF := Lib.hid (show findF t p = valT t by unfold findF; rw [if_pos hq])
    unfold PathsOwn at C1
    have c1 : ∀ W, Below w.heap.size w W → Calls Tryz.prog 13 #[.agg #[.slice a t.length c]] W (fun e w' => e = .returned (.tuple #[.slice none 0 0, faultV (valT t).1 (valT t).2]) ∧ Below W.heap.size W w') := fun W hb => (C1.out W hb).mono (fun e w' hh => by
      rcases hh with ⟨_, h1⟩ | ⟨h0, _⟩
      · exact h1
      · exact absurd (by rw [h0]) hq)
    clear C1
    unfold faultV at c1
    have C1 := Lib.hid c1
    have hq1 : ((valT t).1 != 0) = true := by simpa using hq
    have HQ := Lib.hid hq
    unfold FindPost
    rw [HFF.out]
    have HR := Lib.hid (show valT t = ((valT t).1, (valT t).2) from rfl)
    clear c1 h hq HFF HR
    generalize hvt : valT t = vt at *
    clear hvt
    obtain ⟨q, r⟩ := vt
    simp only at *
    go_enter Tryz.func5, Tryz.ntmps5
    go_wp2_with fail
    refine (C1.out _ B0.out).mono ?_
    rintro e W1 ⟨rfl, b1⟩
    have B1 := Lib.hid (B0.out.trans (b1.mono B0.out.size))
    obtain ⟨l9, a0, a1, f0, f1⟩ := F0.out.below b1 F0.out.lt
    have hs1 := B1.out.size
    clear b1
    go_wp2
    go_region
    go_wp2
    exact bodyPost_ret (v := .tuple #[.slice none 0 0, faultV q r]) (by simp [results, Tryz.results5, faultV, go_sem, a0, a1, l9]) rfl (.inl ⟨HQ.out, rfl, by repeat (first | exact B1.out | refine Below.setCell ?_ (by first | omega | (simp; done) | (simp; omega)) _ | refine Below.alloc ?_ (by first | omega | (simp; done) | (simp; omega)) _ | refine Below.drew ?_)⟩)

end Go.Proofs.YtoeiaffkedkepaaGreatDoor

/- The reference's NonEmptyParts and MatchComponents: the pieces that are not empty, and whether elements match components. Conditions: strings of at most 100 bytes; the cells of the slices lie in memory as they read. -/
namespace Go.Proofs.YtoeiaffkedkepaaGreatDoor
open Go.RowKit

/-- What of the first k pieces is not empty. -/
def ncut (cs : List ByteArray) (k : Nat) : List ByteArray := (cs.take k).filter (fun x => !(x.size == 0))
theorem ncut_yes {cs : List ByteArray} {k : Nat} (h : k < cs.length) (hz : ¬ (cs.getD k ByteArray.empty).size = 0) : ncut cs (k + 1) = ncut cs k ++ [cs.getD k ByteArray.empty] := by
  unfold ncut
  rw [List.take_add_one, List.getElem?_eq_getElem h, List.filter_append, getD_eq h]
  congr 1
  rw [getD_eq h] at hz
  simp [hz]
theorem ncut_no {cs : List ByteArray} {k : Nat} (h : k < cs.length) (hz : (cs.getD k ByteArray.empty).size = 0) : ncut cs (k + 1) = ncut cs k := by
  unfold ncut
  rw [List.take_add_one, List.getElem?_eq_getElem h, List.filter_append]
  rw [getD_eq h] at hz
  simp [hz]
theorem ncut_len (cs : List ByteArray) (k : Nat) : (ncut cs k).length ≤ k := by
  unfold ncut
  exact Nat.le_trans (List.length_filter_le _ _) (by rw [List.length_take]; exact Nat.min_le_left _ _)
theorem nempty_str {x : ByteArray} : (x.toList == []) = (x.size == 0) := by
  rw [Lib.toList_data, Bool.eq_iff_iff, beq_iff_eq, beq_iff_eq]
  have : x.data.toList.length = x.size := by simp
  constructor
  · intro h; rw [h] at this; simpa using this.symm
  · intro h; exact List.eq_nil_of_length_eq_zero (by omega)

set_option maxHeartbeats 800000 in
theorem nonEmpty_any (p : ByteArray) (w : World) (hp : p.size ≤ 100) :
    Calls Tryz.prog 12 #[.string p] w fun e w' =>
      ∃ v, e = .returned v ∧ w'.ownsRow w.heap.size 9 1 v (parts p.data.toList).length ((parts p.data.toList).map Value.string) ∧ Below w.heap.size w w' := by
  obtain ⟨i0, hi, hz0, hz1, hz2⟩ := info_parts info9
  have hsz : p.data.toList.length = p.size := by simp
  have hcl := comps_len_le p.data.toList
  have C1 := Lib.hid (splitAt_any p w hp)
  have HP := Lib.hid (show parts p.data.toList = ncut (comps p.data.toList) (comps p.data.toList).length from by rw [parts_comps]; unfold ncut; rw [List.take_length])
  rw [HP.out]
  have hcl2 : (comps p.data.toList).length ≤ 101 := by omega
  clear HP hcl hsz
  generalize comps p.data.toList = cs at *
  go_enter Tryz.func12, Tryz.ntmps12
  go_wp2_with fail
  refine C1.out.mono ?_
  rintro e W1 ⟨v, rfl, S1, b1, _⟩
  obtain ⟨va, vc, rfl, hvc, _, hvs, hvcell⟩ := S1
  have BB := Lib.hid b1
  have HC := Lib.hid hvcell
  have hs1 := b1.size
  clear b1 hvcell hvs
  go_wp2_with fail
  go_loopg [4, 5] cs.length (fun gg s4 s5 wr => ∃ k : Nat, s5 = .int .i64 k ∧ k ≤ cs.length ∧ cs.length - k ≤ gg ∧ Aside (wr.ownsRow W1.heap.size 9 1 s4 (ncut cs k).length ((ncut cs k).map Value.string) ∧ Below W1.heap.size W1 wr))
  case atStart => exact ⟨0, rfl, Nat.zero_le _, by omega, (show _ ∧ _ from ⟨⟨rfl, .inl ⟨rfl, rfl⟩⟩, Below.refl _ _⟩)⟩
  case round =>
    obtain ⟨k, rfl, hk, hg, A⟩ := hrel
    obtain ⟨hown, hbw⟩ := A.out
    clear A
    by_cases hlt : k < cs.length
    · obtain ⟨b, o, rfl, hb, hcell⟩ := HC.out (by omega)
      have hck := (hbw.cell (p := ⟨b, o + k, none⟩) hb).trans (hcell k hlt)
      have hltz : (k : Int) < (cs.length : Int) := by omega
      have hbl : b < wr.heap.size := Nat.lt_of_lt_of_le hb hbw.size
      by_cases hz : (cs.getD k ByteArray.empty).size = 0
      · have HN := Lib.hid (ncut_no hlt hz)
        have ht : ((cs.getD k ByteArray.empty).toList == []) = true := by rw [nempty_str]; simpa using hz
        have ht2 : ((cs.getD k ByteArray.empty).toList != []) = false := by rw [bne, ht]; rfl
        have HO := Lib.hid hown
        have HB := Lib.hid hbw
        clear hz hown hbw hcell
        generalize cs.getD k ByteArray.empty = y at hck ht ht2
        go_wp2
        go_roundg (cs.length - (k + 1))
        case measure => omega
        case rel => exact ⟨k + 1, by go_num, by omega, by omega, (show _ ∧ _ from ⟨by rw [HN.out]; exact HO.out, HB.out⟩)⟩
      · have HN := Lib.hid (ncut_yes hlt hz)
        have ht : ((cs.getD k ByteArray.empty).toList == []) = false := by rw [nempty_str]; simpa using hz
        have ht2 : ((cs.getD k ByteArray.empty).toList != []) = true := by rw [bne, ht]; rfl
        have hcut := ncut_len cs k
        have HB := Lib.hid hbw
        have HG := Lib.hid hown.lt
        have hb1 := hbw.size
        clear hz hbw hcell
        generalize hyy : cs.getD k ByteArray.empty = y at hck ht ht2
        rw [hyy] at HN
        clear hyy
        go_wp2_with (at_builtin; refine wpList_append_own _ rfl _ _ 26 rfl W1.heap.size 9 i0 (.string ByteArray.empty) 1 16 Tryz.underlying26 hi hz0 hz1 hz2 rfl (by decide) _ _ _ rfl (hown.alloc _) ⟨wr.heap.size, 0, none⟩ 1 1 [.string y] rfl rfl ?c1 ?c2 ?c3 ?c4 ?c5 ?_)
        case c1 => exact cell_one_new _ _ _
        case c2 => simp [Value.oneCell']
        case c3 => unfold maxLen; omega
        case c4 => omega
        case c5 => simp; omega
        intro v' w1 hown1 hgrow1 _
        have HO := Lib.hid hown1
        clear hown hown1
        go_wp2
        go_roundg (cs.length - (k + 1))
        case measure => omega
        case rel =>
          refine ⟨k + 1, by go_num, by omega, by omega, (show _ ∧ _ from ⟨?_, ?_⟩)⟩
          · rw [HN.out]; simpa using HO.out
          · exact (HB.out.alloc hb1 _).grown hgrow1 (by simp; omega) (fun g hg => (HG.out g hg).1)
    · obtain rfl : k = cs.length := by omega
      have HO := Lib.hid hown
      have HB := Lib.hid hbw
      clear hown hbw
      go_wp2
      go_ret
      exact ⟨_, rfl, own_le HO.out hs1, BB.out.trans (HB.out.mono hs1)⟩

end Go.Proofs.YtoeiaffkedkepaaGreatDoor
