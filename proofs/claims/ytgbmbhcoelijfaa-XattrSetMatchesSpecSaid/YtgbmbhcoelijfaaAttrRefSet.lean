/- The reference's SetAttr at every sorted list of at most six attributes. Conditions: the slice's cells lie in memory as they read. -/
import Derived.Test.YtgbmbhcoelijfaaAttrPut
import Derived.Test.YtgbmbhcoelijfaaAttrSame
namespace Go.Proofs.Ytgbmbhcoelijfaa
open Go.RowKit

/-- A call that has boxed the attribute (x, y) owns the row v of the attributes L. -/
structure PInv (w wr : World) (x y : ByteArray) (base : Nat) (L : List Attr) (v : Value) : Prop where
  B : Below w.heap.size w wr
  X : AB wr w.heap.size x y
  bs : base ≤ wr.heap.size
  own : wr.ownsRow base 27 2 v L.length (flatA L)
theorem PInv.drewN {w wr : World} {x y : ByteArray} {base : Nat} {L : List Attr} {v : Value} (I : PInv w wr x y base L v) (q : Nat) : PInv w (wr.drewN q) x y base L v :=
  ⟨below_drewN I.B q, I.X.drewN q, I.bs, I.own⟩
/-- Laying one more attribute at the row's end: what is kept. -/
theorem PInv.lay {w wr w3 : World} {x y : ByteArray} {base n : Nat} {L : List Attr} {v v3 : Value} {e : Attr} {c : Obj} (I : PInv w wr x y base L v) (hb : w.heap.size < base)
    (hown : w3.ownsRow base 27 2 v3 n (flatA (L ++ [e]))) (hg : (wr.alloc c).grownBy w3 v.ownBlock) (hn : n = L.length + 1) : PInv w w3 x y base (L ++ [e]) v3 := by
  subst hn
  have LT := I.own.lt
  refine ⟨(I.B.alloc I.B.size _).grown hg (by have := I.B.size; simp; omega) (fun g hgg => by have := (LT g hgg).1; omega), (I.X.alloc _).grown hg (fun e => by have := (LT _ e.symm).1; omega), by have := hg.size; have := I.bs; simp at *; omega, ?_⟩
  simpa using hown
def SetPost (xs : List Attr) (a : Attr) (w : World) (e : Ending) (w' : World) : Prop :=
  ∃ v, e = .returned v ∧ Ats w' w'.heap.size v (setL xs a) ∧ Below w.heap.size w w'

set_option maxRecDepth 100000 in
set_option maxHeartbeats 4000000 in
theorem refSet_any (v : Value) (xs : List Attr) (x y : ByteArray) (w : World) (h : Ats w w.heap.size v xs) (hs : Srt xs) (h6 : xs.length ≤ 6) (hfa : (⟨x, y⟩ : Attr).fits) :
    Calls Try.prog 17 #[v, .agg #[.string x, .string y]] w (SetPost xs ⟨x, y⟩ w) := by
  obtain ⟨av, cv, rfl, hcl, _, hfit, hx⟩ := h
  have HX := Lib.hid hx
  have HF := Lib.hid hfit
  have HS := Lib.hid hs
  have HFA := Lib.hid hfa
  clear hx hfit hs hfa
  have LEN := Lib.hid (fun k => outK_len xs ⟨x, y⟩ k)
  have HE : y.toList.isEmpty = decide (y = ByteArray.empty) := isEmpty_str y
  generalize he : decide (y = ByteArray.empty) = e at HE
  have E := Lib.hid he
  clear he
  go_enter Try.func17, Try.ntmps17
  go_wp2_with fail
  have IN := Lib.hid (show PInv w (w.alloc (.cells #[.string x, .string y] 27)) x y (w.heap.size + 1) (outK xs ⟨x, y⟩ 0) (.slice none 0 0) from by
    rw [(out_zero xs ⟨x, y⟩).1]
    exact ⟨(Below.refl _ _).alloc (Nat.le_refl _) _, AB.new _ _ _ _, by simp, ⟨rfl, .inl ⟨rfl, rfl⟩⟩⟩)
  go_loopg [5, 6, 7] xs.length (fun gg s5 s6 s7 wr => ∃ (k : Nat) (d : Bool), k ≤ xs.length ∧ xs.length - k ≤ gg ∧ s7 = .int .i64 k ∧ s6 = .bool d ∧ Aside (d = (e || geK xs ⟨x, y⟩ k)) ∧ Aside (PInv w wr x y (w.heap.size + 1) (outK xs ⟨x, y⟩ k) s5))
  case atStart => exact ⟨0, e, by omega, by omega, rfl, rfl, (show _ = _ from by rw [(out_zero xs ⟨x, y⟩).2]; simp), IN.out⟩
  case round =>
    obtain ⟨k, d, hk, hg, rfl, rfl, D, I⟩ := hrel
    clear IN
    by_cases hlt : k < xs.length
    · have hltz : (k : Int) < (xs.length : Int) := by omega
      have hk0 : (0 : Int) ≤ (k : Int) := Int.natCast_nonneg _
      obtain ⟨b, o, rfl, hb, hj⟩ := HX.out (by omega)
      have HXC := Lib.hid (show ∀ W, Below w.heap.size w W → W.cell? ⟨b, o + k * 2, none⟩ = some (.string (xs.getD k A0).n) ∧ W.cell? ⟨b, o + k * 2 + 1, none⟩ = some (.string (xs.getD k A0).v) from fun W hW =>
        ⟨(hW.cell (p := ⟨b, _, none⟩) hb).trans (hj k hlt).1, (hW.cell (p := ⟨b, _, none⟩) hb).trans (hj k hlt).2⟩)
      have hef := HF.out _ (atD_mem hlt)
      clear hj
      have hLT := Lib.hid (fun hl => out_lt HS.out (a := ⟨x, y⟩) hlt rfl hl)
      have hEQ := Lib.hid (fun hl => out_eq HS.out (a := ⟨x, y⟩) hlt rfl hl)
      have hGT := Lib.hid (fun hl => out_gt (a := ⟨x, y⟩) hlt rfl hl)
      generalize hy : xs.getD k A0 = yk at *
      obtain ⟨n, z⟩ := yk
      have EF := Lib.hid hef
      clear hy hef
      simp only at HXC hLT hEQ hGT
      have hLk := LEN.out k
      generalize geK xs ⟨x, y⟩ k = gk0 at *
      generalize hg1 : geK xs ⟨x, y⟩ (k + 1) = gk1 at *
      have G1 := Lib.hid hg1
      clear hg1
      generalize outK xs ⟨x, y⟩ k = L at *
      generalize hl1 : outK xs ⟨x, y⟩ (k + 1) = L1 at *
      have HL1 := Lib.hid hl1
      clear hl1
      have hcases : (d = true ∧ n ≠ x ∧ L1 = L ++ [⟨n, z⟩] ∧ (e || gk1) = true) ∨ (d = false ∧ ltS n x = true ∧ L1 = L ++ [⟨n, z⟩] ∧ (e || gk1) = false) ∨ (d = true ∧ n = x ∧ L1 = L ∧ (e || gk1) = true) ∨ (d = false ∧ n = x ∧ L1 = L ++ [⟨x, y⟩] ∧ (e || gk1) = true) ∨ (d = false ∧ ltS x n = true ∧ L1 = L ++ [⟨x, y⟩] ++ [⟨n, z⟩] ∧ (e || gk1) = true) := by
        have hd := D.out
        have hee := E.out
        cases h1 : ltS n x with
        | true =>
          obtain ⟨r1, r2, r3⟩ := hLT.out h1
          subst r1 r2
          cases d with
          | true => left; exact ⟨rfl, ltS_ne h1, r3, hd.symm⟩
          | false => right; left; exact ⟨rfl, rfl, r3, hd.symm⟩
        | false =>
          by_cases h2 : n = x
          · obtain ⟨r1, r2, r3⟩ := hEQ.out h2
            subst r1 r2
            rw [Bool.or_false] at hd
            subst hd
            cases d with
            | true => right; right; left; exact ⟨rfl, h2, by rw [r3, presA_none (by simpa using hee)]; simp, rfl⟩
            | false => right; right; right; left; exact ⟨rfl, h2, by rw [r3, presA_one (by simpa using hee)], rfl⟩
          · have h3 := ltS_of h1 h2
            obtain ⟨r2, r3⟩ := hGT.out h3
            subst r2
            cases d with
            | true =>
              left
              refine ⟨rfl, h2, ?_, by simp⟩
              cases gk0 with
              | true => simpa using r3
              | false =>
                rw [Bool.or_false] at hd
                subst hd
                rw [r3, presA_none (by simpa using hee)]; simp
            | false =>
              right; right; right; right
              cases gk0 with
              | true => simp at hd
              | false =>
                rw [Bool.or_false] at hd
                subst hd
                exact ⟨rfl, h3, by rw [r3, presA_one (by simpa using hee)]; simp, by simp⟩
      clear hLT hEQ hGT D
      obtain ⟨g0, g1⟩ := HXC.out wr I.out.B
      obtain ⟨_, x0, x1⟩ := I.out.X
      have hbs := I.out.bs
      rcases hcases with ⟨rfl, hne, hL1, hd1⟩ | ⟨rfl, hl1, hL1, hd1⟩ | ⟨rfl, hne, hL1, hd1⟩ | ⟨rfl, hne, hL1, hd1⟩ | ⟨rfl, hl1, hL1, hd1⟩
      · have hb1 : (n.toList == x.toList) = false := by rw [beq_str]; simpa using hne
        clear hne
        go_wp2_with fail
        go_quiet (fail)
        have I2 := Lib.hid (I.out.drewN nq)
        clear I g0 g1 x0 x1
        generalize wr.drewN nq = w2 at *
        clear nq
        obtain ⟨g0, g1⟩ := HXC.out w2 I2.out.B
        obtain ⟨_, x0, x1⟩ := I2.out.X
        have hbs := I2.out.bs
        go_wp2_with fail
        go_quiet (fail)
        have I3 := Lib.hid (I2.out.drewN nq)
        clear I2 g0 g1 x0 x1
        generalize w2.drewN nq = w3 at *
        clear nq
        obtain ⟨g0, g1⟩ := HXC.out w3 I3.out.B
        obtain ⟨_, x0, x1⟩ := I3.out.X
        have hbs := I3.out.bs
        have hbw := I3.out.B.size
        have OW := Lib.hid (own_below I3.out.own ((Below.refl w3.heap.size w3).alloc (Nat.le_refl _) (.cells #[.string n, .string z] 27)))
        have AO := Lib.hid (ats_one w3 _ rfl ⟨n, z⟩ EF.out 27)
        go_wp2_with (at_builtin; refine wpList_append_attrs rfl (.tmp 41) (.tmp 46) rfl (w.heap.size + 1) u5 _ L rfl OW.out _ (.slice (some ⟨w3.heap.size, 0, none⟩) 1 1) [⟨n, z⟩] rfl AO.out (by first | omega | (simp; done) | (simp; omega)) (by first | omega | (simp; done) | (simp; omega)) ?_; intro v3 w4 hown3 hg3)
        have hs3 := hg3.size
        simp at hs3
        have I4 := Lib.hid (I3.out.lay (by omega) hown3 hg3 (by simp))
        clear hown3 hg3 OW AO I3
        go_wp2
        go_roundg (xs.length - (k + 1))
        case measure => omega
        case rel => exact ⟨k + 1, true, by omega, by omega, by go_num, rfl, (show _ = _ from by rw [G1.out]; exact hd1.symm), (show PInv _ _ _ _ _ _ _ from by rw [HL1.out, hL1]; exact I4.out)⟩
      · have hb1 : (n.toList == x.toList) = false := by rw [beq_str]; simpa using ltS_ne hl1
        have hb2 : Op.bytesLess x.toList n.toList = false := ltS_asymm hl1
        clear hl1
        go_wp2_with fail
        go_quiet (fail)
        have I2 := Lib.hid (I.out.drewN nq)
        clear I g0 g1 x0 x1
        generalize wr.drewN nq = w2 at *
        clear nq
        obtain ⟨g0, g1⟩ := HXC.out w2 I2.out.B
        obtain ⟨_, x0, x1⟩ := I2.out.X
        have hbs := I2.out.bs
        go_wp2_with fail
        go_quiet (fail)
        have I3 := Lib.hid (I2.out.drewN nq)
        clear I2 g0 g1 x0 x1
        generalize w2.drewN nq = w3 at *
        clear nq
        obtain ⟨g0, g1⟩ := HXC.out w3 I3.out.B
        obtain ⟨_, x0, x1⟩ := I3.out.X
        have hbs := I3.out.bs
        have hbw := I3.out.B.size
        have OW := Lib.hid (own_below I3.out.own ((Below.refl w3.heap.size w3).alloc (Nat.le_refl _) (.cells #[.string n, .string z] 27)))
        have AO := Lib.hid (ats_one w3 _ rfl ⟨n, z⟩ EF.out 27)
        go_wp2_with (at_builtin; refine wpList_append_attrs rfl (.tmp 41) (.tmp 46) rfl (w.heap.size + 1) u5 _ L rfl OW.out _ (.slice (some ⟨w3.heap.size, 0, none⟩) 1 1) [⟨n, z⟩] rfl AO.out (by first | omega | (simp; done) | (simp; omega)) (by first | omega | (simp; done) | (simp; omega)) ?_; intro v3 w4 hown3 hg3)
        have hs3 := hg3.size
        simp at hs3
        have I4 := Lib.hid (I3.out.lay (by omega) hown3 hg3 (by simp))
        clear hown3 hg3 OW AO I3
        go_wp2
        go_roundg (xs.length - (k + 1))
        case measure => omega
        case rel => exact ⟨k + 1, false, by omega, by omega, by go_num, rfl, (show _ = _ from by rw [G1.out]; exact hd1.symm), (show PInv _ _ _ _ _ _ _ from by rw [HL1.out, hL1]; exact I4.out)⟩
      · have hb1 : (n.toList == x.toList) = true := by rw [beq_str]; simpa using hne
        clear hne
        go_wp2_with fail
        go_quiet (fail)
        have I2 := Lib.hid (I.out.drewN nq)
        clear I g0 g1 x0 x1
        generalize wr.drewN nq = w2 at *
        clear nq
        obtain ⟨g0, g1⟩ := HXC.out w2 I2.out.B
        obtain ⟨_, x0, x1⟩ := I2.out.X
        have hbs := I2.out.bs
        go_wp2_with fail
        go_quiet (fail)
        have I3 := Lib.hid (I2.out.drewN nq)
        clear I2 g0 g1 x0 x1
        generalize w2.drewN nq = w3 at *
        clear nq
        obtain ⟨g0, g1⟩ := HXC.out w3 I3.out.B
        obtain ⟨_, x0, x1⟩ := I3.out.X
        have hbs := I3.out.bs
        go_wp2
        go_roundg (xs.length - (k + 1))
        case measure => omega
        case rel => exact ⟨k + 1, true, by omega, by omega, by go_num, rfl, (show _ = _ from by rw [G1.out]; exact hd1.symm), (show PInv _ _ _ _ _ _ _ from by rw [HL1.out, hL1]; exact I3.out)⟩
      · have hb1 : (n.toList == x.toList) = true := by rw [beq_str]; simpa using hne
        have hb2 : Op.bytesLess x.toList n.toList = false := by rw [hne]; exact ltS_irrefl x
        clear hne
        go_wp2_with fail
        go_quiet (fail)
        have I2 := Lib.hid (I.out.drewN nq)
        clear I g0 g1 x0 x1
        generalize wr.drewN nq = w2 at *
        clear nq
        obtain ⟨g0, g1⟩ := HXC.out w2 I2.out.B
        obtain ⟨_, x0, x1⟩ := I2.out.X
        have hbs := I2.out.bs
        go_wp2_with fail
        go_quiet (fail)
        have I3 := Lib.hid (I2.out.drewN nq)
        clear I2 g0 g1 x0 x1
        generalize w2.drewN nq = w3 at *
        clear nq
        obtain ⟨g0, g1⟩ := HXC.out w3 I3.out.B
        obtain ⟨_, x0, x1⟩ := I3.out.X
        have hbs := I3.out.bs
        have hbw := I3.out.B.size
        have OW := Lib.hid (own_below I3.out.own ((Below.refl w3.heap.size w3).alloc (Nat.le_refl _) (.cells #[.string x, .string y] 27)))
        have AO := Lib.hid (ats_one w3 _ rfl ⟨x, y⟩ HFA.out 27)
        go_wp2_with (at_builtin; refine wpList_append_attrs rfl (.tmp 50) (.tmp 52) rfl (w.heap.size + 1) u5 _ L rfl OW.out _ (.slice (some ⟨w3.heap.size, 0, none⟩) 1 1) [⟨x, y⟩] rfl AO.out (by first | omega | (simp; done) | (simp; omega)) (by first | omega | (simp; done) | (simp; omega)) ?_; intro v3 w4 hown3 hg3)
        have hs3 := hg3.size
        simp at hs3
        have I4 := Lib.hid (I3.out.lay (by omega) hown3 hg3 (by simp))
        clear hown3 hg3 OW AO I3
        go_wp2
        go_roundg (xs.length - (k + 1))
        case measure => omega
        case rel => exact ⟨k + 1, true, by omega, by omega, by go_num, rfl, (show _ = _ from by rw [G1.out]; exact hd1.symm), (show PInv _ _ _ _ _ _ _ from by rw [HL1.out, hL1]; exact I4.out)⟩
      · have hb1 : (n.toList == x.toList) = false := by rw [beq_str]; simpa using (ltS_ne hl1).symm
        have hb2 : Op.bytesLess x.toList n.toList = true := hl1
        clear hl1
        go_wp2_with fail
        go_quiet (fail)
        have I2 := Lib.hid (I.out.drewN nq)
        clear I g0 g1 x0 x1
        generalize wr.drewN nq = w2 at *
        clear nq
        obtain ⟨g0, g1⟩ := HXC.out w2 I2.out.B
        obtain ⟨_, x0, x1⟩ := I2.out.X
        have hbs := I2.out.bs
        have hbw := I2.out.B.size
        have OW := Lib.hid (own_below I2.out.own ((Below.refl w2.heap.size w2).alloc (Nat.le_refl _) (.cells #[.string x, .string y] 27)))
        have AO := Lib.hid (ats_one w2 _ rfl ⟨x, y⟩ HFA.out 27)
        go_wp2_with (at_builtin; refine wpList_append_attrs rfl (.tmp 29) (.tmp 31) rfl (w.heap.size + 1) u5 _ L rfl OW.out _ (.slice (some ⟨w2.heap.size, 0, none⟩) 1 1) [⟨x, y⟩] rfl AO.out (by first | omega | (simp; done) | (simp; omega)) (by first | omega | (simp; done) | (simp; omega)) ?_; intro v3 w3 hown3 hg3)
        have hs3 := hg3.size
        simp at hs3
        have I3 := Lib.hid (I2.out.lay (by omega) hown3 hg3 (by simp))
        clear hown3 hg3 OW AO I2
        obtain ⟨g0, g1⟩ := HXC.out w3 I3.out.B
        obtain ⟨_, x0, x1⟩ := I3.out.X
        have hbs := I3.out.bs
        go_wp2_with fail
        go_quiet (fail)
        have I4 := Lib.hid (I3.out.drewN nq)
        clear I3 g0 g1 x0 x1
        generalize w3.drewN nq = w4 at *
        clear nq
        obtain ⟨g0, g1⟩ := HXC.out w4 I4.out.B
        obtain ⟨_, x0, x1⟩ := I4.out.X
        have hbs := I4.out.bs
        have hbw := I4.out.B.size
        have OW := Lib.hid (own_below I4.out.own ((Below.refl w4.heap.size w4).alloc (Nat.le_refl _) (.cells #[.string n, .string z] 27)))
        have AO := Lib.hid (ats_one w4 _ rfl ⟨n, z⟩ EF.out 27)
        go_wp2_with (at_builtin; refine wpList_append_attrs rfl (.tmp 41) (.tmp 46) rfl (w.heap.size + 1) v3 _ (L ++ [⟨x, y⟩]) rfl OW.out _ (.slice (some ⟨w4.heap.size, 0, none⟩) 1 1) [⟨n, z⟩] rfl AO.out (by first | omega | (simp; done) | (simp; omega)) (by first | omega | (simp; done) | (simp; omega)) ?_; intro v3 w5 hown3 hg3)
        have hs3 := hg3.size
        simp at hs3
        have I5 := Lib.hid (I4.out.lay (by omega) hown3 hg3 (by simp))
        clear hown3 hg3 OW AO I4
        go_wp2
        go_roundg (xs.length - (k + 1))
        case measure => omega
        case rel => exact ⟨k + 1, true, by omega, by omega, by go_num, rfl, (show _ = _ from by rw [G1.out]; exact hd1.symm), (show PInv _ _ _ _ _ _ _ from by rw [HL1.out, hL1]; exact I5.out)⟩
    · obtain rfl : k = xs.length := by omega
      have hltz : ¬ (xs.length : Int) < (xs.length : Int) := by omega
      have hend := out_end (xs := xs) (a := ⟨x, y⟩)
      have hSF := setL_fits HF.out HFA.out
      have hSL := setL_len xs ⟨x, y⟩
      have hLk := LEN.out xs.length
      generalize geK xs ⟨x, y⟩ xs.length = gk0 at *
      generalize outK xs ⟨x, y⟩ xs.length = L at *
      have SF := Lib.hid hSF
      have SL := Lib.hid hSL
      have HEND := Lib.hid hend
      clear hSF hSL hend
      obtain ⟨_, x0, x1⟩ := I.out.X
      have hbs := I.out.bs
      have hd := D.out
      have hee := E.out
      cases d with
      | true =>
        have hS : setL xs ⟨x, y⟩ = L := by
          rw [← HEND.out]
          cases gk0 with
          | true => simp
          | false =>
            rw [Bool.or_false] at hd
            subst hd
            rw [presA_none (by simpa using hee)]; simp
        have HSET := Lib.hid hS
        clear hS hd hee
        go_wp2
        go_ret
        refine ⟨_, rfl, ?_, I.out.B⟩
        have h1 := SF.out
        have h2 := SL.out
        rw [HSET.out] at h1 h2 ⊢
        exact ats_own I.out.own h1 (by omega)
      | false =>
        have hS : setL xs ⟨x, y⟩ = L ++ [⟨x, y⟩] := by
          rw [← HEND.out]
          cases gk0 with
          | true => simp at hd
          | false =>
            rw [Bool.or_false] at hd
            subst hd
            rw [presA_one (by simpa using hee)]; simp
        have HSET := Lib.hid hS
        clear hS hd hee
        have hbw := I.out.B.size
        have OW := Lib.hid (own_below I.out.own ((Below.refl wr.heap.size wr).alloc (Nat.le_refl _) (.cells #[.string x, .string y] 27)))
        have AO := Lib.hid (ats_one wr _ rfl ⟨x, y⟩ HFA.out 27)
        go_wp2_with (at_builtin; refine wpList_append_attrs rfl (.tmp 56) (.tmp 58) rfl (w.heap.size + 1) u5 _ L rfl OW.out _ (.slice (some ⟨wr.heap.size, 0, none⟩) 1 1) [⟨x, y⟩] rfl AO.out (by first | omega | (simp; done) | (simp; omega)) (by first | omega | (simp; done) | (simp; omega)) ?_; intro v3 w2 hown3 hg3)
        have hs3 := hg3.size
        simp at hs3
        have I2 := Lib.hid (I.out.lay (by omega) hown3 hg3 (by simp))
        clear hown3 hg3 OW AO I
        go_wp2
        go_ret
        refine ⟨_, rfl, ?_, I2.out.B⟩
        have h1 := SF.out
        have h2 := SL.out
        rw [HSET.out] at h1 h2 ⊢
        exact ats_own I2.out.own h1 (by omega)

end Go.Proofs.Ytgbmbhcoelijfaa
