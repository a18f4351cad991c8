/- checkAttr, xattr.Validate and the reference's ValidateAttrs at every list: too many, or the first bad attribute's code and place. Conditions: the slice's cells lie in memory as they read. -/
import Derived.Test.YtndhhofidkaomaaAttrCode
import Derived.Deep.LoopGhost
import Derived.Deep.Draws
import Derived.BigQuiet
import Derived.Test.YtndhhofidkaomaaPathJoin

set_option linter.all false
namespace Go.Proofs.Ytndhhofidkaomaa
open Go.RowKit

theorem strs_one (w : World) (n : Nat) (hn : n = w.heap.size) (x : ByteArray) (hx : x.size ≤ maxLen) (t : TypeId) : Strs (w.alloc (.cells #[.string x] t)) (w.heap.size + 1) (.slice (some ⟨n, 0, none⟩) 1 1) [x] := by
  subst hn
  refine ⟨_, _, rfl, by simp, by simp, by simpa using hx, fun _ => ⟨_, _, rfl, by simp, ?_⟩⟩
  intro j hj
  match j, hj with
  | 0, _ => simp
theorem joinF_one (x : ByteArray) : (joinF [x]).1 = if vname x = true then 0 else 12 := by
  cases h : vname x with
  | true =>
    have h1 : firstBad [x] = 1 := firstBad_miss (by intro j hj; match j, hj with | 0, _ => simpa using h)
    have h2 : compFault [x] = (0, 0) := by unfold compFault; rw [h1]; simp
    have h3 : (pstr [x]).length ≤ 100 := by
      unfold pstr
      rw [if_neg (by simp)]
      have := (vname_size h).2
      simp; omega
    unfold joinF
    rw [h2, if_pos rfl, if_neg (by omega)]
    rfl
  | false =>
    have h1 : firstBad [x] = 0 := firstBad_hit (k := 0) (by simp) (by simpa using h) (fun j hj => absurd hj (by omega))
    have h2 : compFault [x] = (12, 0) := by unfold compFault; rw [h1]; simp
    unfold joinF
    rw [h2]
    simp
theorem codeA_form (x y : ByteArray) : codeA ⟨x, y⟩ = if (joinF [x]).1 = 0 then (if 20 < y.size then 10 else 0) else 12 := by
  rw [joinF_one]
  unfold codeA
  cases vname x <;> simp

set_option maxHeartbeats 400000 in
theorem checkAttr_any (x y : ByteArray) (w : World) (hx : x.size ≤ maxLen) (hy : y.size ≤ maxLen) :
    Calls Try.prog 58 #[.agg #[.string x, .string y]] w fun e w' => e = .returned (.int .i64 (codeA ⟨x, y⟩)) ∧ Below w.heap.size w w' := by
  have HC := Lib.hid (fun (W : World) (v : Value) (h : Strs W W.heap.size v [x]) => pathJoin_any v [x] W h)
  have HF := Lib.hid (codeA_form x y)
  have HS := Lib.hid (fun (W : World) (n : Nat) (hn : n = W.heap.size) (t : TypeId) => (strs_one W n hn x hx t).more (B' := W.heap.size + 1) (Nat.le_refl _))
  unfold joinV faultV at HC
  generalize codeA ⟨x, y⟩ = q at *
  generalize joinS [x] = S at *
  generalize (joinF [x]).2 = i at *
  unfold maxLen at hy
  by_cases hc : (joinF [x]).1 = 0
  · rw [hc] at HC HF
    rw [if_pos rfl] at HF
    clear hc
    go_enter Try.func58, Try.ntmps58
    go_wp2_with fail
    refine (HC.out _ _ (by simpa using HS.out (w.alloc (.cells #[.string x, .string y] 82)) _ (by simp) 9)).mono ?_
    rintro e w' ⟨rfl, hb'⟩
    have bw : Below w.heap.size w w' := (((Below.refl _ _).alloc (Nat.le_refl _) _).alloc (by simp) _).trans (hb'.mono (by first | omega | (simp; done) | (simp; omega)))
    have bws := bw.size
    obtain ⟨gl, g0, g1⟩ := ((AB.new w x y 82).alloc (.cells #[.string x] 9)).below hb' (by first | omega | (simp; done) | (simp; omega))
    clear hb' g0
    by_cases h20 : 20 < y.size
    · rw [if_pos h20] at HF
      go_wp2
      go_ret
      refine ⟨ret_int HF.out.symm, ?_⟩
      repeat (first | exact bw | refine Below.setCell ?_ (by first | omega | (simp; done) | (simp; omega)) _ | refine Below.alloc ?_ (by first | omega | (simp; done) | (simp; omega)) _ | refine Below.drew ?_)
    · rw [if_neg h20] at HF
      go_wp2
      go_ret
      refine ⟨ret_int HF.out.symm, ?_⟩
      repeat (first | exact bw | refine Below.setCell ?_ (by first | omega | (simp; done) | (simp; omega)) _ | refine Below.alloc ?_ (by first | omega | (simp; done) | (simp; omega)) _ | refine Below.drew ?_)
  · rw [if_neg hc] at HF
    generalize (joinF [x]).1 = c at *
    have hc1 : (c != 0) = true := by simpa using hc
    have hc2 : (c == 0) = false := by simpa using hc
    clear hc
    go_enter Try.func58, Try.ntmps58
    go_wp2_with fail
    refine (HC.out _ _ (by simpa using HS.out (w.alloc (.cells #[.string x, .string y] 82)) _ (by simp) 9)).mono ?_
    rintro e w' ⟨rfl, hb'⟩
    have bw : Below w.heap.size w w' := (((Below.refl _ _).alloc (Nat.le_refl _) _).alloc (by simp) _).trans (hb'.mono (by first | omega | (simp; done) | (simp; omega)))
    have bws := bw.size
    clear hb'
    go_wp2
    go_ret
    refine ⟨ret_int HF.out.symm, ?_⟩
    repeat (first | exact bw | refine Below.setCell ?_ (by first | omega | (simp; done) | (simp; omega)) _ | refine Below.alloc ?_ (by first | omega | (simp; done) | (simp; omega)) _ | refine Below.drew ?_)

def valAV (xs : List Attr) : Value := faultV (valA xs).1 (valA xs).2
theorem valAV_hit {xs : List Attr} (h : ¬ 6 < xs.length) {k : Nat} {c : Int} (hk : k < xs.length) (hc : codeL xs k = c) (hn : ¬ c = 0) (hA : ∀ j, j < k → codeL xs j = 0) : valAV xs = faultV c k := by
  unfold valAV; rw [valA_hit h hk (by rw [hc]; exact hn) hA, hc]
theorem valAV_miss {xs : List Attr} (h : ¬ 6 < xs.length) (hA : ∀ j, j < xs.length → codeL xs j = 0) : valAV xs = faultV 0 0 := by
  unfold valAV; rw [valA_miss h hA]
theorem codeL_of {xs : List Attr} {k : Nat} {x y p : ByteArray} (hy : xs.getD k A0 = ⟨x, y⟩) (hp : prevN xs k = p) :
    codeL xs k = if codeA ⟨x, y⟩ = 0 then (if y = ByteArray.empty ∨ ltS p x = false then 5 else 0) else codeA ⟨x, y⟩ := by
  unfold codeL; rw [hy, hp]
theorem prevN_succ {xs : List Attr} {k : Nat} {x y : ByteArray} (hy : xs.getD k A0 = ⟨x, y⟩) : prevN xs (k + 1) = x := by
  unfold prevN; rw [if_neg (by omega), Nat.add_sub_cancel, hy]
theorem leqS (x p : ByteArray) : (Op.bytesLess x.toList p.toList || x.toList == p.toList) = !ltS p x := by
  have e : Op.bytesLess x.toList p.toList = ltS x p := rfl
  rw [e, beq_str]
  cases h : ltS p x with
  | true => rw [ltS_asymm h, decide_eq_false (fun e => by subst e; rw [ltS_irrefl] at h; cases h)]; rfl
  | false =>
    cases h2 : ltS x p with
    | true => rfl
    | false => rw [decide_eq_true (ltS_eq h2 h)]; rfl

set_option maxHeartbeats 1000000 in
theorem xvalidate_any (v : Value) (xs : List Attr) (w : World) (h : Ats w w.heap.size v xs) :
    Calls Try.prog 45 #[v] w fun e w' => e = .returned (valAV xs) ∧ Below w.heap.size w w' := by
  obtain ⟨a, c, rfl, hc, hl, hf, hx⟩ := h
  by_cases h6 : 6 < xs.length
  · have hm := Lib.hid (show valAV xs = faultV 2 0 by unfold valAV; rw [valA_many h6])
    clear hx hf
    go_enter Try.func45, Try.ntmps45
    go_wp2
    exact bodyPost_ret (v := faultV 2 0) (by simp [results, Try.results45, faultV, go_sem]) rfl ⟨by rw [hm.out], (Below.refl _ _).alloc (Nat.le_refl _) _⟩
  · have H6 := Lib.hid h6
    have h62 : xs.length ≤ 6 := by omega
    have h6b : decide ((6 : Int) < (xs.length : Int)) = false := by simp; omega
    have HX := Lib.hid hx
    have HFT := Lib.hid hf
    clear hf h6 hx
    go_enter Try.func45, Try.ntmps45
    go_wp2
    go_loopg [3, 4, 5, 6, 13] xs.length (fun gg s3 _ _ _ s13 wr => ∃ (kk : Nat) (p : ByteArray), kk ≤ xs.length ∧ xs.length - kk ≤ gg ∧ s13 = .int .i64 kk ∧ s3 = .string p ∧ Aside (prevN xs kk = p) ∧ Aside (Below w.heap.size w wr) ∧ Aside (FBox wr w.heap.size 0 0) ∧ Aside (∀ j, j < kk → codeL xs j = 0))
    case atStart => exact ⟨0, ByteArray.empty, Nat.zero_le _, by omega, rfl, rfl, (show prevN xs 0 = _ from rfl), (Below.refl _ _).alloc (Nat.le_refl _) _, FBox.new w 0 0 _, fun j hj => absurd hj (Nat.not_lt_zero _)⟩
    case round =>
      obtain ⟨kk, p, hkk, hg, rfl, rfl, PV, BW, FB, A⟩ := hrel
      by_cases hlt : kk < xs.length
      · have hltz : (kk : Int) < (xs.length : Int) := by omega
        obtain ⟨b, o, rfl, hb, hj⟩ := HX.out (by omega)
        have g0 : wr.cell? ⟨b, o + kk * 2, none⟩ = some (.string (xs.getD kk A0).n) := (BW.out.cell (p := ⟨b, _, none⟩) hb).trans (hj kk hlt).1
        have g1 : wr.cell? ⟨b, o + kk * 2 + 1, none⟩ = some (.string (xs.getD kk A0).v) := (BW.out.cell (p := ⟨b, _, none⟩) hb).trans (hj kk hlt).2
        have hfit := HFT.out _ (atD_mem hlt)
        clear hj
        generalize hy : xs.getD kk A0 = y at g0 g1 hfit
        obtain ⟨x, z⟩ := y
        have Y := Lib.hid hy
        have CL := Lib.hid (codeL_of hy PV.out)
        have PN := Lib.hid (prevN_succ hy)
        clear hy
        have hcall := Lib.hid (fun W => checkAttr_any x z W hfit.1 hfit.2)
        clear hfit
        generalize codeA ⟨x, z⟩ = q at hcall CL
        have hs0 := BW.out.size
        have hl0 := FB.out.lt
        by_cases hq0 : q = 0
        · subst hq0
          rw [if_pos rfl] at CL
          by_cases hz : z = ByteArray.empty
          · rw [if_pos (Or.inl hz)] at CL
            have hz1 : z.toList.isEmpty = true := by rw [isEmpty_str]; simpa using hz
            clear hz
            go_wp2_with fail
            refine (hcall.out _).mono ?_
            rintro e w' ⟨rfl, hb'⟩
            have bw : Below wr.heap.size wr w' := ((Below.refl _ _).alloc (Nat.le_refl _) _).trans (hb'.mono (by first | omega | (simp; done) | (simp; omega)))
            have hB1 : Below w.heap.size w w' := BW.out.trans (bw.mono BW.out.size)
            have FB1 := FB.out.below bw FB.out.lt
            obtain ⟨gl, k0, k1⟩ := (AB.new wr x z 82).below hb' (by first | omega | (simp; done) | (simp; omega))
            have bs1 := bw.size
            clear hb' bw
            obtain ⟨l1, a0, a1, f0, f1⟩ := FB1
            go_wp2
            exact bodyPost_ret (v := faultV 5 kk) (by simp [results, Try.results45, faultV, go_sem, a0, a1]) rfl ⟨by rw [valAV_hit H6.out hlt CL.out (by omega) A.out], (hB1.setCell (by first | omega | (simp; done) | (simp; omega)) _).setCell (by first | omega | (simp; done) | (simp; omega)) _⟩
          · have hz1 : z.toList.isEmpty = false := by rw [isEmpty_str]; simpa using hz
            cases hlq : ltS p x with
            | false =>
              rw [if_pos (Or.inr hlq)] at CL
              have hle : (Op.bytesLess x.toList p.toList || x.toList == p.toList) = true := by rw [leqS, hlq]; rfl
              clear hz hlq
              go_wp2_with fail
              refine (hcall.out _).mono ?_
              rintro e w' ⟨rfl, hb'⟩
              have bw : Below wr.heap.size wr w' := ((Below.refl _ _).alloc (Nat.le_refl _) _).trans (hb'.mono (by first | omega | (simp; done) | (simp; omega)))
              have hB1 : Below w.heap.size w w' := BW.out.trans (bw.mono BW.out.size)
              have FB1 := FB.out.below bw FB.out.lt
              obtain ⟨gl, k0, k1⟩ := (AB.new wr x z 82).below hb' (by first | omega | (simp; done) | (simp; omega))
              have bs1 := bw.size
              clear hb' bw
              obtain ⟨l1, a0, a1, f0, f1⟩ := FB1
              go_wp2
              exact bodyPost_ret (v := faultV 5 kk) (by simp [results, Try.results45, faultV, go_sem, a0, a1]) rfl ⟨by rw [valAV_hit H6.out hlt CL.out (by omega) A.out], (hB1.setCell (by first | omega | (simp; done) | (simp; omega)) _).setCell (by first | omega | (simp; done) | (simp; omega)) _⟩
            | true =>
              rw [if_neg (by rintro (h | h); exact hz h; rw [hlq] at h; cases h)] at CL
              have hle : (Op.bytesLess x.toList p.toList || x.toList == p.toList) = false := by rw [leqS, hlq]; rfl
              clear hz hlq
              go_wp2_with fail
              refine (hcall.out _).mono ?_
              rintro e w' ⟨rfl, hb'⟩
              have bw : Below wr.heap.size wr w' := ((Below.refl _ _).alloc (Nat.le_refl _) _).trans (hb'.mono (by first | omega | (simp; done) | (simp; omega)))
              have hB1 : Below w.heap.size w w' := BW.out.trans (bw.mono BW.out.size)
              have FB1 := FB.out.below bw FB.out.lt
              obtain ⟨gl, k0, k1⟩ := (AB.new wr x z 82).below hb' (by first | omega | (simp; done) | (simp; omega))
              have bs1 := bw.size
              clear hb' bw
              have FF := Lib.hid FB1
              clear FB1
              go_wp2
              go_roundg (xs.length - (kk + 1))
              case measure => omega
              case rel =>
                refine ⟨kk + 1, x, by omega, by omega, by go_num, rfl, PN.out, hB1, FF.out, (show Aside _ from fun j hj => ?_)⟩
                by_cases e : j = kk
                · subst e; exact CL.out
                · exact A.out j (by omega)
        · rw [if_neg hq0] at CL
          have hq1 : (q == 0) = false := by simpa using hq0
          have hq2 : (q != 0) = true := by simpa using hq0
          have HQ := Lib.hid hq0
          clear hq0
          go_wp2_with fail
          refine (hcall.out _).mono ?_
          rintro e w' ⟨rfl, hb'⟩
          have bw : Below wr.heap.size wr w' := ((Below.refl _ _).alloc (Nat.le_refl _) _).trans (hb'.mono (by first | omega | (simp; done) | (simp; omega)))
          have hB1 : Below w.heap.size w w' := BW.out.trans (bw.mono BW.out.size)
          have FB1 := FB.out.below bw FB.out.lt
          obtain ⟨gl, k0, k1⟩ := (AB.new wr x z 82).below hb' (by first | omega | (simp; done) | (simp; omega))
          have bs1 := bw.size
          clear hb' bw
          obtain ⟨l1, a0, a1, f0, f1⟩ := FB1
          go_wp2
          exact bodyPost_ret (v := faultV q kk) (by simp [results, Try.results45, faultV, go_sem, a0, a1]) rfl ⟨by rw [valAV_hit H6.out hlt CL.out HQ.out A.out], (hB1.setCell (by first | omega | (simp; done) | (simp; omega)) _).setCell (by first | omega | (simp; done) | (simp; omega)) _⟩
      · have hltz : ¬ (kk : Int) < (xs.length : Int) := by omega
        have e : kk = xs.length := by omega
        have E : Aside (kk = xs.length) := e
        clear e
        obtain ⟨l1, a0, a1, k0, k1⟩ := FB.out
        have hs0 := BW.out.size
        go_wp2
        exact bodyPost_ret (v := faultV 0 0) (by simp [results, Try.results45, faultV, go_sem, a0, a1]) rfl ⟨by rw [valAV_miss H6.out fun j hj => A.out j (by have := E.out; omega)], (BW.out.setCell (by first | omega | (simp; done) | (simp; omega)) _).setCell (by first | omega | (simp; done) | (simp; omega)) _⟩

set_option maxHeartbeats 1000000 in
theorem refValidate_any (v : Value) (xs : List Attr) (w : World) (h : Ats w w.heap.size v xs) :
    Calls Try.prog 38 #[v] w fun e w' => e = .returned (valAV xs) ∧ Below w.heap.size w w' := by
  obtain ⟨a, c, rfl, hc, hl, hf, hx⟩ := h
  by_cases h6 : 6 < xs.length
  · have hm := Lib.hid (show valAV xs = faultV 2 0 by unfold valAV; rw [valA_many h6])
    clear hx hf
    go_enter Try.func38, Try.ntmps38
    go_wp2_with fail
    refine (newFault_any _ _ _).mono ?_
    rintro e w' ⟨rfl, hb'⟩
    have B1 : Below w.heap.size w w' := ((Below.refl _ _).alloc (Nat.le_refl _) _).trans (hb'.mono (by first | omega | (simp; done) | (simp; omega)))
    obtain ⟨l1, a0, a1, f0, f1⟩ := (FBox.new w 0 0 27).below hb' (by first | omega | (simp; done) | (simp; omega))
    go_wp2
    exact bodyPost_ret (v := faultV 2 0) (by simp [results, Try.results38, faultV, go_sem, a0, a1]) rfl ⟨by rw [hm.out], (B1.setCell (by first | omega | (simp; done) | (simp; omega)) _).setCell (by first | omega | (simp; done) | (simp; omega)) _⟩
  · have H6 := Lib.hid h6
    have h62 : xs.length ≤ 6 := by omega
    have h6b : decide ((6 : Int) < (xs.length : Int)) = false := by simp; omega
    have HX := Lib.hid hx
    have HFT := Lib.hid hf
    clear hf h6 hx
    go_enter Try.func38, Try.ntmps38
    go_wp2
    go_loopg [3, 4] xs.length (fun gg s3 _ wr => ∃ (kk : Nat), kk ≤ xs.length ∧ xs.length - kk ≤ gg ∧ s3 = .int .i64 kk ∧ Aside (Below w.heap.size w wr) ∧ Aside (FBox wr w.heap.size 0 0) ∧ Aside (∀ j, j < kk → codeL xs j = 0))
    case atStart => exact ⟨0, Nat.zero_le _, by omega, rfl, (Below.refl _ _).alloc (Nat.le_refl _) _, FBox.new w 0 0 _, fun j hj => absurd hj (Nat.not_lt_zero _)⟩
    case round =>
      obtain ⟨kk, hkk, hg, rfl, BW, FB, A⟩ := hrel
      by_cases hlt : kk < xs.length
      · have hltz : (kk : Int) < (xs.length : Int) := by omega
        have hk0 : (0 : Int) ≤ (kk : Int) := Int.natCast_nonneg _
        obtain ⟨b, o, rfl, hb, hj⟩ := HX.out (by omega)
        have g0 : wr.cell? ⟨b, o + kk * 2, none⟩ = some (.string (xs.getD kk A0).n) := (BW.out.cell (p := ⟨b, _, none⟩) hb).trans (hj kk hlt).1
        have g1 : wr.cell? ⟨b, o + kk * 2 + 1, none⟩ = some (.string (xs.getD kk A0).v) := (BW.out.cell (p := ⟨b, _, none⟩) hb).trans (hj kk hlt).2
        have hfit := HFT.out _ (atD_mem hlt)
        have HP := Lib.hid (show 0 < kk → prevN xs kk = (xs.getD (kk - 1) A0).n ∧ wr.cell? ⟨b, o + (kk - 1) * 2, none⟩ = some (.string (xs.getD (kk - 1) A0).n) from fun h0 => ⟨by unfold prevN; rw [if_neg (by omega)], (BW.out.cell (p := ⟨b, _, none⟩) hb).trans (hj (kk - 1) (by omega)).1⟩)
        clear hj
        generalize hy : xs.getD kk A0 = y at g0 g1 hfit
        obtain ⟨x, z⟩ := y
        have Y := Lib.hid hy
        have CL := Lib.hid (codeL_of hy (p := prevN xs kk) rfl)
        clear hy
        have hcall := Lib.hid (fun W => attrCode_any x z W hfit.1 hfit.2)
        have HVN := Lib.hid (show codeA ⟨x, z⟩ = 0 → x ≠ ByteArray.empty from fun h e => by have := (vname_size (codeA_ok h).1).1; simp only at this; rw [e] at this; simp at this)
        clear hfit
        generalize codeA ⟨x, z⟩ = q at hcall CL HVN
        have hs0 := BW.out.size
        have hl0 := FB.out.lt
        by_cases hq0 : q = 0
        · subst hq0
          have hxne := HVN.out rfl
          rw [if_pos rfl] at CL
          by_cases hz : z = ByteArray.empty
          · rw [if_pos (Or.inl hz)] at CL
            have hz1 : z.toList.isEmpty = true := by rw [isEmpty_str]; simpa using hz
            clear hz hxne HVN HP
            go_wp2_with fail
            refine (hcall.out _).mono ?_
            rintro e w' ⟨rfl, hb'⟩
            have hB1 : Below w.heap.size w w' := BW.out.trans (hb'.mono BW.out.size)
            have FB1 := Lib.hid (FB.out.below hb' FB.out.lt)
            have k0 := (hb'.cell (p := ⟨b, o + kk * 2, none⟩) (Nat.lt_of_lt_of_le hb hs0)).trans g0
            have k1 := (hb'.cell (p := ⟨b, o + kk * 2 + 1, none⟩) (Nat.lt_of_lt_of_le hb hs0)).trans g1
            have bs1 := hb'.size
            have FBX := FB1
            clear hb' g0 g1
            go_wp2_with fail
            go_quiet (fail)
            go_wp2_with fail
            refine (newFault_any _ _ _).mono ?_
            rintro e w2 ⟨rfl, hb2⟩
            obtain ⟨l1, a0, a1, f0, f1⟩ := (FB1.out.drewN nq).below hb2 FB1.out.lt
            have B2 : Below w.heap.size w w2 := (below_drewN hB1 nq).trans (hb2.mono (Nat.le_trans hs0 bs1))
            have bs2 := B2.size
            go_wp2
            exact bodyPost_ret (v := faultV 5 kk) (by simp [results, Try.results38, faultV, go_sem, a0, a1]) rfl ⟨by rw [valAV_hit H6.out hlt CL.out (by omega) A.out], (B2.setCell (by first | omega | (simp; done) | (simp; omega)) _).setCell (by first | omega | (simp; done) | (simp; omega)) _⟩
          · have hz1 : z.toList.isEmpty = false := by rw [isEmpty_str]; simpa using hz
            cases kk with
            | zero =>
              rw [if_neg (by rintro (h | h); exact hz h; unfold prevN at h; rw [if_pos rfl, ltS_empty] at h; simp at h; exact hxne h)] at CL
              clear hz hxne HVN HP
              have g0 : wr.cell? ⟨b, o, none⟩ = some (.string x) := by simpa using g0
              have g1 : wr.cell? ⟨b, o + 1, none⟩ = some (.string z) := by simpa using g1
              go_wp2_with fail
              refine (hcall.out _).mono ?_
              rintro e w' ⟨rfl, hb'⟩
              have hB1 : Below w.heap.size w w' := BW.out.trans (hb'.mono BW.out.size)
              have FB1 := Lib.hid (FB.out.below hb' FB.out.lt)
              have k0 := (hb'.cell (p := ⟨b, o, none⟩) (Nat.lt_of_lt_of_le hb hs0)).trans g0
              have k1 := (hb'.cell (p := ⟨b, o + 1, none⟩) (Nat.lt_of_lt_of_le hb hs0)).trans g1
              have bs1 := hb'.size
              clear hb' g0 g1
              go_wp2_with fail
              go_quiet (fail)
              go_wp2_with fail
              go_roundg (xs.length - (0 + 1))
              case measure => omega
              case rel =>
                refine ⟨0 + 1, by omega, by omega, by go_num, below_drewN hB1 nq, FB1.out.drewN nq, (show Aside _ from fun j hj => ?_)⟩
                by_cases e : j = 0
                · subst e; exact CL.out
                · exact A.out j (by omega)
            | succ m =>
              obtain ⟨hp1, hp2⟩ := HP.out (by omega)
              rw [Nat.add_sub_cancel] at hp1 hp2
              rw [hp1] at CL
              generalize (xs.getD m A0).n = p at CL hp2
              clear HP hp1 hxne HVN
              cases hlq : ltS p x with
              | false =>
                rw [if_pos (Or.inr hlq)] at CL
                have hle : (Op.bytesLess x.toList p.toList || x.toList == p.toList) = true := by rw [leqS, hlq]; rfl
                clear hz hlq
                go_wp2_with fail
                refine (hcall.out _).mono ?_
                rintro e w' ⟨rfl, hb'⟩
                have hB1 : Below w.heap.size w w' := BW.out.trans (hb'.mono BW.out.size)
                have FB1 := Lib.hid (FB.out.below hb' FB.out.lt)
                have k0 := (hb'.cell (p := ⟨b, o + (m + 1) * 2, none⟩) (Nat.lt_of_lt_of_le hb hs0)).trans g0
                have k1 := (hb'.cell (p := ⟨b, o + (m + 1) * 2 + 1, none⟩) (Nat.lt_of_lt_of_le hb hs0)).trans g1
                have bs1 := hb'.size
                have k2 := (hb'.cell (p := ⟨b, o + m * 2, none⟩) (Nat.lt_of_lt_of_le hb hs0)).trans hp2
                clear hb' g0 g1 hp2
                go_wp2_with fail
                go_quiet (fail)
                go_wp2_with fail
                refine (newFault_any _ _ _).mono ?_
                rintro e w2 ⟨rfl, hb2⟩
                obtain ⟨l1, a0, a1, f0, f1⟩ := (FB1.out.drewN nq).below hb2 FB1.out.lt
                have B2 : Below w.heap.size w w2 := (below_drewN hB1 nq).trans (hb2.mono (Nat.le_trans hs0 bs1))
                have bs2 := B2.size
                go_wp2
                exact bodyPost_ret (v := faultV 5 (m + 1 : Nat)) (by simp [results, Try.results38, faultV, go_sem, a0, a1]) rfl ⟨by rw [valAV_hit H6.out hlt CL.out (by omega) A.out], (B2.setCell (by first | omega | (simp; done) | (simp; omega)) _).setCell (by first | omega | (simp; done) | (simp; omega)) _⟩
              | true =>
                rw [if_neg (by rintro (h | h); exact hz h; rw [hlq] at h; cases h)] at CL
                have hle : (Op.bytesLess x.toList p.toList || x.toList == p.toList) = false := by rw [leqS, hlq]; rfl
                clear hz hlq
                go_wp2_with fail
                refine (hcall.out _).mono ?_
                rintro e w' ⟨rfl, hb'⟩
                have hB1 : Below w.heap.size w w' := BW.out.trans (hb'.mono BW.out.size)
                have FB1 := Lib.hid (FB.out.below hb' FB.out.lt)
                have k0 := (hb'.cell (p := ⟨b, o + (m + 1) * 2, none⟩) (Nat.lt_of_lt_of_le hb hs0)).trans g0
                have k1 := (hb'.cell (p := ⟨b, o + (m + 1) * 2 + 1, none⟩) (Nat.lt_of_lt_of_le hb hs0)).trans g1
                have bs1 := hb'.size
                have k2 := (hb'.cell (p := ⟨b, o + m * 2, none⟩) (Nat.lt_of_lt_of_le hb hs0)).trans hp2
                clear hb' g0 g1 hp2
                go_wp2_with fail
                go_quiet (fail)
                go_wp2_with fail
                go_roundg (xs.length - ((m + 1) + 1))
                case measure => omega
                case rel =>
                  refine ⟨(m + 1) + 1, by omega, by omega, by go_num, below_drewN hB1 nq, FB1.out.drewN nq, (show Aside _ from fun j hj => ?_)⟩
                  by_cases e : j = (m + 1)
                  · subst e; exact CL.out
                  · exact A.out j (by omega)
        · rw [if_neg hq0] at CL
          have hq1 : (q == 0) = false := by simpa using hq0
          have hq2 : (q != 0) = true := by simpa using hq0
          have HQ := Lib.hid hq0
          clear hq0 HVN HP
          go_wp2_with fail
          refine (hcall.out _).mono ?_
          rintro e w' ⟨rfl, hb'⟩
          have hB1 : Below w.heap.size w w' := BW.out.trans (hb'.mono BW.out.size)
          have FB1 := Lib.hid (FB.out.below hb' FB.out.lt)
          have k0 := (hb'.cell (p := ⟨b, o + kk * 2, none⟩) (Nat.lt_of_lt_of_le hb hs0)).trans g0
          have k1 := (hb'.cell (p := ⟨b, o + kk * 2 + 1, none⟩) (Nat.lt_of_lt_of_le hb hs0)).trans g1
          have bs1 := hb'.size
          clear hb' g0 g1
          go_wp2_with fail
          go_quiet (fail)
          go_wp2_with fail
          refine (newFault_any _ _ _).mono ?_
          rintro e w2 ⟨rfl, hb2⟩
          obtain ⟨l1, a0, a1, f0, f1⟩ := (FB1.out.drewN nq).below hb2 FB1.out.lt
          have B2 : Below w.heap.size w w2 := (below_drewN hB1 nq).trans (hb2.mono (Nat.le_trans hs0 bs1))
          have bs2 := B2.size
          go_wp2
          exact bodyPost_ret (v := faultV q kk) (by simp [results, Try.results38, faultV, go_sem, a0, a1]) rfl ⟨by rw [valAV_hit H6.out hlt CL.out HQ.out A.out], (B2.setCell (by first | omega | (simp; done) | (simp; omega)) _).setCell (by first | omega | (simp; done) | (simp; omega)) _⟩
      · have hltz : ¬ (kk : Int) < (xs.length : Int) := by omega
        have e : kk = xs.length := by omega
        have E : Aside (kk = xs.length) := e
        clear e
        obtain ⟨l1, a0, a1, k0, k1⟩ := FB.out
        have hs0 := BW.out.size
        go_wp2
        exact bodyPost_ret (v := faultV 0 0) (by simp [results, Try.results38, faultV, go_sem, a0, a1]) rfl ⟨by rw [valAV_miss H6.out fun j hj => A.out j (by have := E.out; omega)], (BW.out.setCell (by first | omega | (simp; done) | (simp; omega)) _).setCell (by first | omega | (simp; done) | (simp; omega)) _⟩

end Go.Proofs.Ytndhhofidkaomaa
