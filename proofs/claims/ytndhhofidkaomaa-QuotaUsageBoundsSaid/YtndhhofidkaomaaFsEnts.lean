/- checkEntries at every tree and list of entries. Conditions: the cells lie in memory as they read. -/
import Derived.Test.YtndhhofidkaomaaFsLeaves
import Derived.Test.YtndhhofidkaomaaAttrValid

set_option linter.all false
namespace Go.Proofs.Ytndhhofidkaomaa
open Go.RowKit

/-- The name before number k. -/
def prevP (p : ByteArray) (es : List DE) (k : Nat) : ByteArray := if k = 0 then p else (es.getD (k - 1) D0).n
theorem codeDs_hit (t : Tr) : ∀ (es : List DE) (p : ByteArray) (k : Nat), k < es.length → (∀ j, j < k → codeD t (prevP p es j) (es.getD j D0) = 0) → codeD t (prevP p es k) (es.getD k D0) ≠ 0 → codeDs t p es = codeD t (prevP p es k) (es.getD k D0)
  | [], _, k, h, _, _ => absurd h (by simp)
  | e :: r, p, 0, _, _, hc => by
    unfold prevP at hc ⊢
    simp at hc ⊢
    unfold codeDs
    rw [if_neg hc]
  | e :: r, p, k + 1, h, hA, hc => by
    have h0 := hA 0 (by omega)
    unfold prevP at h0
    simp at h0
    have hsh : ∀ j, prevP p (e :: r) (j + 1) = prevP e.n r j := by
      intro j
      unfold prevP
      rw [if_neg (by omega)]
      cases j with
      | zero => simp
      | succ j => rw [if_neg (by omega)]; simp
    have hsg : ∀ j, (e :: r).getD (j + 1) D0 = r.getD j D0 := by intro j; simp
    unfold codeDs
    rw [if_pos h0, hsh, hsg]
    rw [hsh, hsg] at hc
    refine codeDs_hit t r e.n k (by simpa using h) (fun j hj => ?_) hc
    have := hA (j + 1) (by omega)
    rwa [hsh, hsg] at this
theorem codeDs_miss (t : Tr) : ∀ (es : List DE) (p : ByteArray), (∀ j, j < es.length → codeD t (prevP p es j) (es.getD j D0) = 0) → codeDs t p es = 0
  | [], _, _ => rfl
  | e :: r, p, hA => by
    have h0 := hA 0 (by simp)
    unfold prevP at h0
    simp at h0
    have hsh : ∀ j, prevP p (e :: r) (j + 1) = prevP e.n r j := by
      intro j
      unfold prevP
      rw [if_neg (by omega)]
      cases j with
      | zero => simp
      | succ j => rw [if_neg (by omega)]; simp
    have hsg : ∀ j, (e :: r).getD (j + 1) D0 = r.getD j D0 := by intro j; simp
    unfold codeDs
    rw [if_pos h0]
    refine codeDs_miss t r e.n fun j hj => ?_
    have := hA (j + 1) (by simpa using hj)
    rwa [hsh, hsg] at this
def codeAt (t : Tr) (es : List DE) (k : Nat) : Int := codeD t (prevP ByteArray.empty es k) (es.getD k D0)
theorem codeEs_hit {t : Tr} {es : List DE} (h : ¬ 16 < es.length) {k : Nat} {c : Int} (hk : k < es.length) (hc : codeAt t es k = c) (hn : ¬ c = 0) (hA : ∀ j, j < k → codeAt t es j = 0) : codeEs t es = c := by
  unfold codeEs; rw [if_neg h, codeDs_hit t es _ k hk hA (by unfold codeAt at hc; rw [hc]; exact hn)]; exact hc
theorem codeEs_miss {t : Tr} {es : List DE} (h : ¬ 16 < es.length) (hA : ∀ j, j < es.length → codeAt t es j = 0) : codeEs t es = 0 := by
  unfold codeEs; rw [if_neg h, codeDs_miss t es _ hA]
theorem codeAt_of {t : Tr} {es : List DE} {k : Nat} {x p : ByteArray} {i : Int} (hy : es.getD k D0 = ⟨x, i⟩) (hp : prevP ByteArray.empty es k = p) :
    codeAt t es k = if vname x = false then 12 else if ltS p x = false then 5 else if i = 0 ∨ used t i = false then 3 else 0 := by
  unfold codeAt codeD; rw [hy, hp]
theorem prevP_succ {es : List DE} {k : Nat} {x : ByteArray} {i : Int} (hy : es.getD k D0 = ⟨x, i⟩) : prevP ByteArray.empty es (k + 1) = x := by
  unfold prevP; rw [if_neg (by omega), Nat.add_sub_cancel, hy]
/-- Block n holds an entry. -/
structure DB (w : World) (n : Nat) (x : ByteArray) (i : Int) : Prop where
  lt : n < w.heap.size
  c0 : w.cell? ⟨n, 0, none⟩ = some (.string x)
  c1 : w.cell? ⟨n, 1, none⟩ = some (.int .i64 i)
theorem DB.new (w : World) (x : ByteArray) (i : Int) (t : TypeId) : DB (w.alloc (.cells #[.string x, .int .i64 i] t)) w.heap.size x i :=
  ⟨by simp, by simp, by simp⟩
theorem DB.below {w w' : World} {B n : Nat} {x : ByteArray} {i : Int} (h : DB w n x i) (hb : Below B w w') (hn : n < B) : DB w' n x i :=
  ⟨Nat.lt_of_lt_of_le h.lt hb.size, (hb.cell (p := ⟨n, 0, none⟩) hn).trans h.c0, (hb.cell (p := ⟨n, 1, none⟩) hn).trans h.c1⟩
theorem DB.alloc {w : World} {n : Nat} {x : ByteArray} {i : Int} (h : DB w n x i) (o : Obj) : DB (w.alloc o) n x i :=
  h.below ((Below.refl w.heap.size w).alloc (Nat.le_refl _) o) h.lt

set_option maxHeartbeats 2000000 in
theorem checkEntries_any (ta : Option Addr) (tc : Nat) (t : Tr) (v : Value) (es : List DE) (w : World) (ht : Nods w w.heap.size ta tc t) (h : DEs w w.heap.size v es) :
    Calls Try.prog 46 #[.agg #[.slice ta t.length tc], v] w fun e w' => e = .returned (.int .i64 (codeEs t es)) ∧ Below w.heap.size w w' := by
  obtain ⟨a, c, rfl, hc, hl, hf, hx⟩ := h
  have HU := Lib.hid (fun i W (hb : Below w.heap.size w W) => isUsed_any ta tc t i W (ht.up hb))
  clear ht
  by_cases h16 : 16 < es.length
  · have hm := Lib.hid (show codeEs t es = 2 by unfold codeEs; rw [if_pos h16])
    clear hx hf HU
    go_enter Try.func46, Try.ntmps46
    go_wp2
    go_ret
    exact ⟨ret_int hm.out.symm, (Below.refl _ _).alloc (Nat.le_refl _) _⟩
  · have H6 := Lib.hid h16
    have h62 : es.length ≤ 16 := by omega
    have h6b : decide ((16 : Int) < (es.length : Int)) = false := by simp; omega
    have HX := Lib.hid hx
    have HFT := Lib.hid hf
    clear hf h16 hx
    go_enter Try.func46, Try.ntmps46
    go_wp2
    go_loopg [5, 7, 8, 9, 15] es.length (fun gg s5 _ _ _ s15 wr => ∃ (kk : Nat) (p : ByteArray), kk ≤ es.length ∧ es.length - kk ≤ gg ∧ s15 = .int .i64 kk ∧ s5 = .string p ∧ Aside (prevP ByteArray.empty es kk = p) ∧ Aside (Below w.heap.size w wr) ∧ Aside (One wr w.heap.size (.slice ta t.length tc)) ∧ Aside (∀ j, j < kk → codeAt t es j = 0))
    case atStart => exact ⟨0, ByteArray.empty, Nat.zero_le _, by omega, rfl, rfl, (show prevP ByteArray.empty es 0 = _ from rfl), (Below.refl _ _).alloc (Nat.le_refl _) _, One.new w _ _, fun j hj => absurd hj (Nat.not_lt_zero _)⟩
    case round =>
      obtain ⟨kk, p, hkk, hg, rfl, rfl, PV, BW, TB, A⟩ := hrel
      by_cases hlt : kk < es.length
      · have hltz : (kk : Int) < (es.length : Int) := by omega
        obtain ⟨b, o, rfl, hb, hj⟩ := HX.out (by omega)
        have g0 : wr.cell? ⟨b, o + kk * 2, none⟩ = some (.string (es.getD kk D0).n) := (BW.out.cell (p := ⟨b, _, none⟩) hb).trans (hj kk hlt).1
        have g1 : wr.cell? ⟨b, o + kk * 2 + 1, none⟩ = some (.int .i64 (es.getD kk D0).i) := (BW.out.cell (p := ⟨b, _, none⟩) hb).trans (hj kk hlt).2
        have hfit := HFT.out (es.getD kk D0) (by rw [deD hlt]; exact List.getElem_mem hlt)
        clear hj
        generalize hy : es.getD kk D0 = y at g0 g1 hfit
        obtain ⟨x, i⟩ := y
        have Y := Lib.hid hy
        have CL := Lib.hid (codeAt_of (t := t) hy PV.out)
        have PN := Lib.hid (prevP_succ hy)
        clear hy
        have hxs : x.size ≤ maxLen := hfit.1
        have HC := Lib.hid (fun (W : World) (v : Value) (h : Strs W W.heap.size v [x]) => pathJoin_any v [x] W h)
        have HS := Lib.hid (fun (W : World) (n : Nat) (hn : n = W.heap.size) (t : TypeId) => (strs_one W n hn x hxs t).more (B' := W.heap.size + 1) (Nat.le_refl _))
        have hjf := joinF_one x
        unfold joinV faultV at HC
        clear hfit hxs
        generalize joinS [x] = S at *
        generalize (joinF [x]).2 = ji at *
        generalize (joinF [x]).1 = jc at *
        have hs0 := BW.out.size
        have hl0 := TB.out.lt
        cases hv : vname x with
        | false =>
          rw [hv] at hjf CL
          rw [if_neg (by simp)] at hjf
          rw [if_pos rfl] at CL
          subst hjf
          clear hv
          go_wp2_with fail
          refine (HC.out _ _ (by simpa using HS.out (wr.alloc (.cells #[.string x, .int .i64 i] 49)) _ (by simp) 9)).mono ?_
          rintro e w' ⟨rfl, hb'⟩
          have bw : Below wr.heap.size wr w' := (((Below.refl _ _).alloc (Nat.le_refl _) _).alloc (by simp) _).trans (hb'.mono (by first | omega | (simp; done) | (simp; omega)))
          have hB1 : Below w.heap.size w w' := BW.out.trans (bw.mono hs0)
          have bws := bw.size
          clear hb' bw
          go_wp2
          go_ret
          exact ⟨ret_int (codeEs_hit H6.out hlt CL.out (by decide) A.out).symm, (by have h9 := hB1.size; repeat (first | exact hB1 | refine Below.setCell ?_ (by first | omega | (simp; done) | (simp; omega)) _ | refine Below.alloc ?_ (by first | omega | (simp; done) | (simp; omega)) _ | refine Below.drew ?_))⟩
        | true =>
          rw [hv] at hjf CL
          rw [if_pos rfl] at hjf
          rw [if_neg (by simp)] at CL
          subst hjf
          clear hv
          cases hlq : ltS p x with
          | false =>
            rw [hlq, if_pos rfl] at CL
            have hle : (Op.bytesLess x.toList p.toList || x.toList == p.toList) = true := by rw [leqS, hlq]; rfl
            clear hlq
            go_wp2_with fail
            refine (HC.out _ _ (by simpa using HS.out (wr.alloc (.cells #[.string x, .int .i64 i] 49)) _ (by simp) 9)).mono ?_
            rintro e w' ⟨rfl, hb'⟩
            have bw : Below wr.heap.size wr w' := (((Below.refl _ _).alloc (Nat.le_refl _) _).alloc (by simp) _).trans (hb'.mono (by first | omega | (simp; done) | (simp; omega)))
            have hB1 : Below w.heap.size w w' := BW.out.trans (bw.mono hs0)
            have bws := bw.size
            have GB := ((DB.new wr x i 49).alloc (.cells #[.string x] 9)).below hb' (by first | omega | (simp; done) | (simp; omega))
            have k0 := GB.c0
            have k1 := GB.c1
            have gl := GB.lt
            clear hb' bw
            go_wp2
            go_ret
            exact ⟨ret_int (codeEs_hit H6.out hlt CL.out (by decide) A.out).symm, (by have h9 := hB1.size; repeat (first | exact hB1 | refine Below.setCell ?_ (by first | omega | (simp; done) | (simp; omega)) _ | refine Below.alloc ?_ (by first | omega | (simp; done) | (simp; omega)) _ | refine Below.drew ?_))⟩
          | true =>
            rw [hlq, if_neg (by simp)] at CL
            have hle : (Op.bytesLess x.toList p.toList || x.toList == p.toList) = false := by rw [leqS, hlq]; rfl
            clear hlq
            by_cases hi : i = 0
            · rw [if_pos (Or.inl hi)] at CL
              subst hi
              go_wp2_with fail
              refine (HC.out _ _ (by simpa using HS.out (wr.alloc (.cells #[.string x, .int .i64 0] 49)) _ (by simp) 9)).mono ?_
              rintro e w' ⟨rfl, hb'⟩
              have bw : Below wr.heap.size wr w' := (((Below.refl _ _).alloc (Nat.le_refl _) _).alloc (by simp) _).trans (hb'.mono (by first | omega | (simp; done) | (simp; omega)))
              have hB1 : Below w.heap.size w w' := BW.out.trans (bw.mono hs0)
              have bws := bw.size
              have GB := ((DB.new wr x 0 49).alloc (.cells #[.string x] 9)).below hb' (by first | omega | (simp; done) | (simp; omega))
              have k0 := GB.c0
              have k1 := GB.c1
              have gl := GB.lt
              clear hb' bw
              go_wp2
              go_ret
              exact ⟨ret_int (codeEs_hit H6.out hlt CL.out (by decide) A.out).symm, (by have h9 := hB1.size; repeat (first | exact hB1 | refine Below.setCell ?_ (by first | omega | (simp; done) | (simp; omega)) _ | refine Below.alloc ?_ (by first | omega | (simp; done) | (simp; omega)) _ | refine Below.drew ?_))⟩
            · have hi1 : (i == 0) = false := by simpa using hi
              have HI := Lib.hid (HU.out i)
              cases hu : used t i with
              | false =>
                rw [if_pos (Or.inr hu)] at CL
                rw [hu] at HI
                clear hu hi
                go_wp2_with fail
                refine (HC.out _ _ (by simpa using HS.out (wr.alloc (.cells #[.string x, .int .i64 i] 49)) _ (by simp) 9)).mono ?_
                rintro e w' ⟨rfl, hb'⟩
                have bw : Below wr.heap.size wr w' := (((Below.refl _ _).alloc (Nat.le_refl _) _).alloc (by simp) _).trans (hb'.mono (by first | omega | (simp; done) | (simp; omega)))
                have hB1 : Below w.heap.size w w' := BW.out.trans (bw.mono hs0)
                have bws := bw.size
                have GB := ((DB.new wr x i 49).alloc (.cells #[.string x] 9)).below hb' (by first | omega | (simp; done) | (simp; omega))
                have k0 := GB.c0
                have k1 := GB.c1
                have gl := GB.lt
                have TB1 := TB.out.below bw hl0
                have k2 := TB1.c0
                have l2 := TB1.lt
                clear hb' bw
                go_wp2_with fail
                refine (HI.out _ (by have h9 := hB1.size; repeat (first | exact hB1 | refine Below.setCell ?_ (by first | omega | (simp; done) | (simp; omega)) _ | refine Below.alloc ?_ (by first | omega | (simp; done) | (simp; omega)) _ | refine Below.drew ?_))).mono ?_
                rintro e w2 ⟨rfl, hb2⟩
                have hB2 : Below w.heap.size w w2 := (show Below w.heap.size w _ from (by have h9 := hB1.size; repeat (first | exact hB1 | refine Below.setCell ?_ (by first | omega | (simp; done) | (simp; omega)) _ | refine Below.alloc ?_ (by first | omega | (simp; done) | (simp; omega)) _ | refine Below.drew ?_))).trans (hb2.mono (by have h9 := hB1.size; first | omega | (simp; done) | (simp; omega)))
                go_wp2
                go_ret
                exact ⟨ret_int (codeEs_hit H6.out hlt CL.out (by decide) A.out).symm, hB2⟩
              | true =>
                rw [if_neg (by rintro (h | h); exact hi h; rw [hu] at h; cases h)] at CL
                rw [hu] at HI
                clear hu hi
                go_wp2_with fail
                refine (HC.out _ _ (by simpa using HS.out (wr.alloc (.cells #[.string x, .int .i64 i] 49)) _ (by simp) 9)).mono ?_
                rintro e w' ⟨rfl, hb'⟩
                have bw : Below wr.heap.size wr w' := (((Below.refl _ _).alloc (Nat.le_refl _) _).alloc (by simp) _).trans (hb'.mono (by first | omega | (simp; done) | (simp; omega)))
                have hB1 : Below w.heap.size w w' := BW.out.trans (bw.mono hs0)
                have bws := bw.size
                have GB := ((DB.new wr x i 49).alloc (.cells #[.string x] 9)).below hb' (by first | omega | (simp; done) | (simp; omega))
                have k0 := GB.c0
                have k1 := GB.c1
                have gl := GB.lt
                have TB1 := TB.out.below bw hl0
                have k2 := TB1.c0
                have l2 := TB1.lt
                clear hb' bw
                go_wp2_with fail
                refine (HI.out _ (by have h9 := hB1.size; repeat (first | exact hB1 | refine Below.setCell ?_ (by first | omega | (simp; done) | (simp; omega)) _ | refine Below.alloc ?_ (by first | omega | (simp; done) | (simp; omega)) _ | refine Below.drew ?_))).mono ?_
                rintro e w2 ⟨rfl, hb2⟩
                have hB2 : Below w.heap.size w w2 := (show Below w.heap.size w _ from (by have h9 := hB1.size; repeat (first | exact hB1 | refine Below.setCell ?_ (by first | omega | (simp; done) | (simp; omega)) _ | refine Below.alloc ?_ (by first | omega | (simp; done) | (simp; omega)) _ | refine Below.drew ?_))).trans (hb2.mono (by have h9 := hB1.size; first | omega | (simp; done) | (simp; omega)))
                have k3 := ((GB.alloc (.cells #[.int .i64 0, .int .i64 ji] 27)).below hb2 (by first | omega | (simp; done) | (simp; omega))).c0
                have TB2 := Lib.hid ((TB1.alloc (.cells #[.int .i64 0, .int .i64 ji] 27)).below hb2 (by have h9 := TB1.lt; first | omega | (simp; done) | (simp; omega)))
                have hBB := Lib.hid hB2
                have hl2 := TB2.out.lt
                clear hb2 hB2
                go_wp2
                go_roundg (es.length - (kk + 1))
                case measure => omega
                case rel =>
                  refine ⟨kk + 1, x, by omega, by omega, by go_num, rfl, PN.out, hBB.out, TB2.out, (show Aside _ from fun j hj => ?_)⟩
                  by_cases e : j = kk
                  · subst e; exact CL.out
                  · exact A.out j (by omega)
      · have hltz : ¬ (kk : Int) < (es.length : Int) := by omega
        have e : kk = es.length := by omega
        have E : Aside (kk = es.length) := e
        clear e
        go_wp2
        go_ret
        exact ⟨ret_int (codeEs_miss H6.out fun j hj => A.out j (by have := E.out; omega)).symm, BW.out⟩

end Go.Proofs.Ytndhhofidkaomaa
