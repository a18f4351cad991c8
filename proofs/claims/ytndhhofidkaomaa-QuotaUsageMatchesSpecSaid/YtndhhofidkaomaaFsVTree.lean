/- The reference's ValidateTree at every tree: the same fault as fstree.Validate. Conditions: the tree's cells lie in memory as they read. -/
import Derived.Test.YtndhhofidkaomaaFsInode
import Derived.Test.YtndhhofidkaomaaFsLink
import Derived.Test.YtndhhofidkaomaaFsRefUse

set_option linter.all false
namespace Go.Proofs.Ytndhhofidkaomaa
open Go.RowKit

/-- What holds all through: the tree's box, and the box of the result. -/
structure TInv (w wr : World) (a : Option Addr) (n c : Nat) : Prop where
  b : Below w.heap.size w wr
  tb : One wr w.heap.size (.slice a n c)
  fb : FBox wr (w.heap.size + 1) 0 0
theorem TInv.step {w wr z : World} {a : Option Addr} {n c : Nat} (h : TInv w wr a n c) (hb : Below wr.heap.size wr z) : TInv w z a n c :=
  ⟨h.b.trans (hb.mono h.b.size), h.tb.below hb h.tb.lt, h.fb.below hb h.fb.lt⟩
theorem codeK0 (t : Tr) (n : Nat) : codeN t (nod t n) = codeK t 0 n := rfl
theorem codeLk_start {t : Tr} (h : (nod t 0).k = 1) : codeK t 1 0 = 0 := by
  change codeLk t 0 = 0
  unfold codeLk
  rw [if_neg (by rw [h]; simp)]
theorem bP_len (xs : List ByteArray) : (bP xs).size = (pstr xs).length := by unfold bP; simp [ByteArray.size]
theorem tooFar_bP {xs : List ByteArray} (hv : ∀ x ∈ xs, vname x = true) : tooFar xs = (decide (8 < xs.length) || decide (100 < (bP xs).size)) := by rw [tooFar_iff hv, bP_len]

set_option maxRecDepth 100000 in
set_option maxHeartbeats 8000000 in
theorem vtree_head (a : Option Addr) (c : Nat) (t : Tr) (w : World) (hd : Head t) (h : Nods w w.heap.size a c t) :
    Calls Try.prog 9 #[.agg #[.slice a t.length c]] w fun e w' => e = .returned (faultV (valT t).1 (valT t).2) ∧ Below w.heap.size w w' := by
  have H := Lib.hid h
  have HD := Lib.hid hd
  have h0 := hd.ne
  have h40 := hd.le
  obtain ⟨b, o, ve, vd, va, vx, rfl, hb, hc, hs⟩ := h.one h0
  have g0 := hc.c0
  rw [hd.root] at g0
  have g0 : w.cell? ⟨b, o, none⟩ = some (.int .i64 1) := by simpa using g0
  have hlz : ((t.length : Int) == 0) = false := by rw [beq_eq_false_iff_ne]; omega
  have hgz : decide ((40 : Int) < (t.length : Int)) = false := by rw [decide_eq_false_iff_not]; omega
  have h0z : (0 : Int) < (t.length : Int) := by omega
  have I0 := Lib.hid (show TInv w ((w.alloc (.cells #[.slice (some ⟨b, o, none⟩) t.length c] 24)).alloc (.cells #[.int .i64 0, .int .i64 0] 27)) (some ⟨b, o, none⟩) t.length c from
    ⟨((Below.refl _ _).alloc (Nat.le_refl _) _).alloc (by first | omega | (simp; done) | (simp; omega)) _, (One.new w _ _).alloc _, (FBox.new (w.alloc _) 0 0 _).at_ (by simp)⟩)
  have HB := Lib.hid hb
  clear hc hs h hd
  go_enter Try.func9, Try.ntmps9
  go_wp2_with fail
  clear g0
  go_loopg [3, 4] t.length (fun gg s3 _ wr => ∃ n : Nat, n ≤ t.length ∧ t.length - n ≤ gg ∧ s3 = .int .i64 n ∧ Aside (TInv w wr (some ⟨b, o, none⟩) t.length c) ∧ Aside (∀ j, j < n → codeK t 0 j = 0))
  case atStart => exact ⟨0, by omega, by omega, rfl, I0.out, fun j hj => absurd hj (Nat.not_lt_zero _)⟩
  case round =>
    obtain ⟨n, hn, hg, rfl, I, A⟩ := hrel
    clear I0
    obtain ⟨w2, rfl⟩ : ∃ w2 : World, w2 = wr := ⟨_, rfl⟩
    have tc := I.out.tb.c0
    have tl := I.out.tb.lt
    have hbs := I.out.b.size
    have hb := Nat.lt_of_lt_of_le HB.out hbs
    by_cases hln : n < t.length
    · have hlnz : (n : Int) < (t.length : Int) := by omega
      have hn0 : (0 : Int) ≤ (n : Int) := Int.natCast_nonneg _
      have hm8 : t.length - (n + 1) < t.length - n := Nat.sub_lt_sub_left hln (Nat.lt_succ_self n)
      obtain ⟨b', o', ve, vd, va, vx, hae, _, hc, hs⟩ := (H.out.up I.out.b).one hln
      injection hae with hae
      injection hae with e1 e2 _
      subst e1 e2
      obtain ⟨ea, ec, rfl⟩ : ∃ ea ec, ve = .slice ea (nod t n).es.length ec := by obtain ⟨ea, ec, e, _⟩ := hs.es; exact ⟨ea, ec, e⟩
      obtain ⟨da, dc, rfl⟩ : ∃ da dc, vd = .slice da (nod t n).dl dc := by obtain ⟨da, dc, e, _⟩ := hs.dl; exact ⟨da, dc, e⟩
      obtain ⟨aa, acp, rfl⟩ : ∃ aa ac, va = .slice aa (nod t n).ac.length ac := by obtain ⟨da, dc, e, _⟩ := hs.ac; exact ⟨da, dc, e⟩
      obtain ⟨xa, xc, rfl⟩ : ∃ xa xc, vx = .slice xa (nod t n).xs.length xc := by obtain ⟨da, dc, e, _⟩ := hs.xs; exact ⟨da, dc, e⟩
      have D := Lib.hid (fun W (hW : Below w2.heap.size w2 W) => inodeCode_any (some ⟨b, o, none⟩) c t (nod t n) _ _ _ _ W ((H.out.up I.out.b).up hW) (hs.up hW))
      have K := Lib.hid (fun y (hy : Below w2.heap.size w2 y) => (show Below w2.heap.size w2 y ∧ y.cell? ⟨w.heap.size, 0, none⟩ = some (.slice (some ⟨b, o, none⟩) t.length c) ∧ y.cell? ⟨b, o + n * 8, none⟩ = some (.int .i64 (nod t n).k) ∧ y.cell? ⟨b, o + n * 8 + 1, none⟩ = some (.int .i64 (nod t n).o) ∧ y.cell? ⟨b, o + n * 8 + 2, none⟩ = some (.slice ea (nod t n).es.length ec) ∧ y.cell? ⟨b, o + n * 8 + 3, none⟩ = some (.slice da (nod t n).dl dc) ∧ y.cell? ⟨b, o + n * 8 + 4, none⟩ = some (.slice aa (nod t n).ac.length acp) ∧ y.cell? ⟨b, o + n * 8 + 5, none⟩ = some (.slice xa (nod t n).xs.length xc) ∧ y.cell? ⟨b, o + n * 8 + 6, none⟩ = some (.int .i64 (nod t n).q) ∧ y.cell? ⟨b, o + n * 8 + 7, none⟩ = some (.int .i64 (nod t n).v) from
        ⟨hy, (hy.cell (p := ⟨w.heap.size, 0, none⟩) tl).trans tc, (hy.cell (p := ⟨b, _, none⟩) hb).trans hc.c0, (hy.cell (p := ⟨b, _, none⟩) hb).trans hc.c1, (hy.cell (p := ⟨b, _, none⟩) hb).trans hc.c2, (hy.cell (p := ⟨b, _, none⟩) hb).trans hc.c3, (hy.cell (p := ⟨b, _, none⟩) hb).trans hc.c4, (hy.cell (p := ⟨b, _, none⟩) hb).trans hc.c5, (hy.cell (p := ⟨b, _, none⟩) hb).trans hc.c6, (hy.cell (p := ⟨b, _, none⟩) hb).trans hc.c7⟩))
      have h7 := hc.c7
      clear hc hs
      have hq : codeN t (nod t n) = codeK t 0 n := rfl
      generalize codeN t (nod t n) = q at *
      have HQ := Lib.hid hq.symm
      clear hq
      generalize (nod t n).k = gk at *
      generalize (nod t n).o = go at *
      generalize (nod t n).es.length = ge at *
      generalize (nod t n).dl = gd at *
      generalize (nod t n).ac.length = ga at *
      generalize (nod t n).xs.length = gx at *
      generalize (nod t n).q = gq at *
      generalize (nod t n).v = gv at *
      by_cases hq0 : q = 0
      · subst hq0
        go_wp2_with fail
        go_region_held3 (fun y => Below w2.heap.size w2 y ∧ y.cell? ⟨w.heap.size, 0, none⟩ = some (.slice (some ⟨b, o, none⟩) t.length c) ∧ y.cell? ⟨b, o + n * 8, none⟩ = some (.int .i64 gk) ∧ y.cell? ⟨b, o + n * 8 + 1, none⟩ = some (.int .i64 go) ∧ y.cell? ⟨b, o + n * 8 + 2, none⟩ = some (.slice ea ge ec) ∧ y.cell? ⟨b, o + n * 8 + 3, none⟩ = some (.slice da gd dc) ∧ y.cell? ⟨b, o + n * 8 + 4, none⟩ = some (.slice aa ga acp) ∧ y.cell? ⟨b, o + n * 8 + 5, none⟩ = some (.slice xa gx xc) ∧ y.cell? ⟨b, o + n * 8 + 6, none⟩ = some (.int .i64 gq) ∧ y.cell? ⟨b, o + n * 8 + 7, none⟩ = some (.int .i64 gv))
          (first | exact K.out _ hR | exact K.out _ (Below.refl _ _).drew)
          ((go_at_call 23; have hs0 := And.left ‹Below w2.heap.size w2 _ ∧ _›; refine (D.out _ hs0).mono ?_; rintro e y ⟨rfl, hb9⟩; have hR := hs0.trans (hb9.mono hs0.size)))
        all_goals
          have hz := And.left ‹Below w2.heap.size w2 _ ∧ _›
          have I8 := Lib.hid (I.out.step hz)
          go_wp2_with fail
          go_roundg (t.length - (n + 1))
          case measure => exact Nat.lt_of_lt_of_le hm8 hg
          case rel =>
            refine ⟨n + 1, by omega, by omega, by go_num, I8.out, (show Aside _ from fun j hj => ?_)⟩
            by_cases e : j = n
            · subst e; exact HQ.out
            · exact A.out j (by omega)
      · have hq1 : (q != 0) = true := by simpa using hq0
        have hq2 : (q == 0) = false := by simpa using hq0
        have HV := Lib.hid (valT_hit HD.out (k := 0) (by omega) (fun j hj => absurd hj (Nat.not_lt_zero _)) hln HQ.out hq0 A.out)
        clear hq0
        go_wp2_with fail
        go_region_held3 (fun y => Below w2.heap.size w2 y ∧ y.cell? ⟨w.heap.size, 0, none⟩ = some (.slice (some ⟨b, o, none⟩) t.length c) ∧ y.cell? ⟨b, o + n * 8, none⟩ = some (.int .i64 gk) ∧ y.cell? ⟨b, o + n * 8 + 1, none⟩ = some (.int .i64 go) ∧ y.cell? ⟨b, o + n * 8 + 2, none⟩ = some (.slice ea ge ec) ∧ y.cell? ⟨b, o + n * 8 + 3, none⟩ = some (.slice da gd dc) ∧ y.cell? ⟨b, o + n * 8 + 4, none⟩ = some (.slice aa ga acp) ∧ y.cell? ⟨b, o + n * 8 + 5, none⟩ = some (.slice xa gx xc) ∧ y.cell? ⟨b, o + n * 8 + 6, none⟩ = some (.int .i64 gq) ∧ y.cell? ⟨b, o + n * 8 + 7, none⟩ = some (.int .i64 gv))
          (first | exact K.out _ hR | exact K.out _ (Below.refl _ _).drew)
          ((go_at_call 23; have hs0 := And.left ‹Below w2.heap.size w2 _ ∧ _›; refine (D.out _ hs0).mono ?_; rintro e y ⟨rfl, hb9⟩; have hR := hs0.trans (hb9.mono hs0.size)))
        all_goals
          have hz := And.left ‹Below w2.heap.size w2 _ ∧ _›
          have I8 := Lib.hid (I.out.step hz)
          go_wp2_with fail
          refine (newFault_any _ _ _).mono ?_
          rintro e w9 ⟨rfl, b9⟩
          have I9 := Lib.hid (I8.out.step b9)
          obtain ⟨l9, a0, a1, f0, f1⟩ := I9.out.fb
          clear b9
          go_wp2
          exact bodyPost_ret (v := faultV q n) (by simp [results, Try.results9, faultV, go_sem, a0, a1]) rfl ⟨by rw [HV.out], (I9.out.b.setCell (by first | omega | (simp; done) | (simp; omega)) _).setCell (by first | omega | (simp; done) | (simp; omega)) _⟩
    · obtain rfl : n = t.length := by omega
      have P1 := Lib.hid (Pass.succ (k := 0) (fun j hj => absurd hj (Nat.not_lt_zero _)) A.out)
      have O1 := Lib.hid (Pass.ok1 HD.out P1.out)
      clear A
      go_wp2_with fail
      clear tc tl hbs hb hln hg hn
      go_loopg [5, 6] t.length (fun gg s5 _ wr => ∃ n : Nat, 1 ≤ n ∧ n ≤ t.length ∧ t.length - n ≤ gg ∧ s5 = .int .i64 n ∧ Aside (TInv w wr (some ⟨b, o, none⟩) t.length c) ∧ Aside (∀ j, j < n → codeK t 1 j = 0))
      case atStart => exact ⟨1, by omega, by omega, by omega, rfl, I.out, fun j hj => by (obtain rfl : j = 0 := by omega); exact codeLk_start HD.out.root⟩
      case round =>
        clear I
        obtain ⟨n, h1n, hn, hg, rfl, I, A⟩ := hrel
        obtain ⟨w2, rfl⟩ : ∃ w2 : World, w2 = wr := ⟨_, rfl⟩
        have tc := I.out.tb.c0
        have tl := I.out.tb.lt
        have hbs := I.out.b.size
        have hb := Nat.lt_of_lt_of_le HB.out hbs
        by_cases hln : n < t.length
        · have hlnz : (n : Int) < (t.length : Int) := by omega
          have hn0 : (0 : Int) ≤ (n : Int) := Int.natCast_nonneg _
          have hm8 : t.length - (n + 1) < t.length - n := Nat.sub_lt_sub_left hln (Nat.lt_succ_self n)
          obtain ⟨b', o', ve, vd, va, vx, hae, _, hc, hs⟩ := (H.out.up I.out.b).one hln
          injection hae with hae
          injection hae with e1 e2 _
          subst e1 e2
          have g0 := hc.c0
          have D := Lib.hid (linkCount_any (some ⟨b, o, none⟩) c t n w2 O1.out (H.out.up I.out.b))
          have HF := Lib.hid (show codeK t 1 n = if ((nod t n).k = 1 ∧ n ≠ 0 ∧ refs t n ≠ 1) ∨ ((nod t n).k = 2 ∧ refs t n = 0) then 11 else 0 from rfl)
          have hk := (O1.out.fine n).kind
          clear hc hs
          generalize refs t n = q at *
          generalize (nod t n).k = gk at *
          rcases hk with rfl | rfl | rfl
          · have HQ := Lib.hid (HF.out.trans (if_neg (by omega)))
            clear HF
            go_wp2_with fail
            refine D.out.mono ?_
            rintro e w3 ⟨rfl, b3⟩
            have I3 := Lib.hid (I.out.step b3)
            have tc3 := I3.out.tb.c0
            have tl3 := I3.out.tb.lt
            have g3 := (b3.cell (p := ⟨b, o + n * 8, none⟩) hb).trans g0
            clear b3
            go_wp2_with fail
            go_roundg (t.length - (n + 1))
            case measure => exact Nat.lt_of_lt_of_le hm8 hg
            case rel =>
              refine ⟨n + 1, by omega, by omega, by omega, by go_num, I3.out, (show Aside _ from fun j hj => ?_)⟩
              by_cases e : j = n
              · subst e; exact HQ.out
              · exact A.out j (by omega)
          · by_cases hq : q = 1
            · subst hq
              have HQ := Lib.hid (HF.out.trans (if_neg (by omega)))
              clear HF
              go_wp2_with fail
              refine D.out.mono ?_
              rintro e w3 ⟨rfl, b3⟩
              have I3 := Lib.hid (I.out.step b3)
              have tc3 := I3.out.tb.c0
              have tl3 := I3.out.tb.lt
              have g3 := (b3.cell (p := ⟨b, o + n * 8, none⟩) hb).trans g0
              clear b3
              go_wp2_with fail
              go_roundg (t.length - (n + 1))
              case measure => exact Nat.lt_of_lt_of_le hm8 hg
              case rel =>
                refine ⟨n + 1, by omega, by omega, by omega, by go_num, I3.out, (show Aside _ from fun j hj => ?_)⟩
                by_cases e : j = n
                · subst e; exact HQ.out
                · exact A.out j (by omega)
            · have hqb : ((q : Int) != 1) = true := by rw [bne_iff_ne]; omega
              have HQ := Lib.hid (HF.out.trans (if_pos (.inl ⟨rfl, by omega, hq⟩)))
              have HV := Lib.hid (valT_hit HD.out (k := 1) (by omega) P1.out hln HQ.out (by decide) A.out)
              clear HF hq
              go_wp2_with fail
              refine D.out.mono ?_
              rintro e w3 ⟨rfl, b3⟩
              have I3 := Lib.hid (I.out.step b3)
              have tc3 := I3.out.tb.c0
              have tl3 := I3.out.tb.lt
              have g3 := (b3.cell (p := ⟨b, o + n * 8, none⟩) hb).trans g0
              clear b3
              go_wp2_with fail
              refine (newFault_any _ _ _).mono ?_
              rintro e w9 ⟨rfl, b9⟩
              have I9 := Lib.hid (I3.out.step b9)
              obtain ⟨l9, a0, a1, f0, f1⟩ := I9.out.fb
              clear b9
              go_wp2
              exact bodyPost_ret (v := faultV 11 n) (by simp [results, Try.results9, faultV, go_sem, a0, a1]) rfl ⟨by rw [HV.out], (I9.out.b.setCell (by first | omega | (simp; done) | (simp; omega)) _).setCell (by first | omega | (simp; done) | (simp; omega)) _⟩
          · by_cases hq : q = 0
            · subst hq
              have HQ := Lib.hid (HF.out.trans (if_pos (.inr ⟨rfl, rfl⟩)))
              have HV := Lib.hid (valT_hit HD.out (k := 1) (by omega) P1.out hln HQ.out (by decide) A.out)
              have hqb : (((0 : Nat) : Int) == 0) = true := by decide
              clear HF
              go_wp2_with fail
              refine D.out.mono ?_
              rintro e w3 ⟨rfl, b3⟩
              have I3 := Lib.hid (I.out.step b3)
              have tc3 := I3.out.tb.c0
              have tl3 := I3.out.tb.lt
              have g3 := (b3.cell (p := ⟨b, o + n * 8, none⟩) hb).trans g0
              clear b3
              go_wp2_with fail
              refine (newFault_any _ _ _).mono ?_
              rintro e w9 ⟨rfl, b9⟩
              have I9 := Lib.hid (I3.out.step b9)
              obtain ⟨l9, a0, a1, f0, f1⟩ := I9.out.fb
              clear b9
              go_wp2
              exact bodyPost_ret (v := faultV 11 n) (by simp [results, Try.results9, faultV, go_sem, a0, a1]) rfl ⟨by rw [HV.out], (I9.out.b.setCell (by first | omega | (simp; done) | (simp; omega)) _).setCell (by first | omega | (simp; done) | (simp; omega)) _⟩
            · have hqb : ((q : Int) == 0) = false := by rw [beq_eq_false_iff_ne]; omega
              have HQ := Lib.hid (HF.out.trans (if_neg (by omega)))
              clear HF hq
              go_wp2_with fail
              refine D.out.mono ?_
              rintro e w3 ⟨rfl, b3⟩
              have I3 := Lib.hid (I.out.step b3)
              have tc3 := I3.out.tb.c0
              have tl3 := I3.out.tb.lt
              have g3 := (b3.cell (p := ⟨b, o + n * 8, none⟩) hb).trans g0
              clear b3
              go_wp2_with fail
              go_roundg (t.length - (n + 1))
              case measure => exact Nat.lt_of_lt_of_le hm8 hg
              case rel =>
                refine ⟨n + 1, by omega, by omega, by omega, by go_num, I3.out, (show Aside _ from fun j hj => ?_)⟩
                by_cases e : j = n
                · subst e; exact HQ.out
                · exact A.out j (by omega)
        · obtain rfl : n = t.length := by omega
          have P2 := Lib.hid (P1.out.succ A.out)
          have O2 := Lib.hid (Pass.ok2 HD.out P2.out)
          clear A
          have D := Lib.hid (routes_any (some ⟨b, o, none⟩) c t 0 w2 O1.out O2.out.from0 (H.out.up I.out.b))
          go_wp2_with fail
          refine D.out.mono ?_
          rintro e w5 ⟨v, L, rfl, hvs, hperm, _, b5⟩
          have I5 := Lib.hid (I.out.step b5)
          have hl6 : L.length ≤ 641 := by rw [← hperm.length_eq]; exact len_visits O1.out O2.out.from0
          have HH := Lib.hid (fun n => hasL_perm hperm n)
          have HFL := Lib.hid (fun n => farL_perm hperm n)
          have HNM := Lib.hid (fun p (hp : p ∈ L) => (O1.out.rch ((mem_visits O2.out.fin (ys := p.1) (m := p.2)).1 (hperm.mem_iff.2 hp)) O1.out.ne (by rw [HD.out.root]; decide)).2.2)
          have V5 := Lib.hid hvs
          obtain ⟨rb, rc, rfl, hrc, hL0, hrb, _⟩ := hvs
          clear b5 hperm D tc tl hbs hb hln hg hn
          go_wp2_with fail
          go_loopg [8, 9, 10, 11] t.length (fun gg s8 _ _ _ wr => ∃ n : Nat, n ≤ t.length ∧ t.length - n ≤ gg ∧ s8 = .int .i64 n ∧ Aside (TInv w wr (some ⟨b, o, none⟩) t.length c) ∧ Aside (Vs wr w5.heap.size (.slice (some ⟨rb, 0, none⟩) L.length rc) L) ∧ Aside (∀ j, j < n → codeK t 2 j = 0))
          case atStart => exact ⟨0, by omega, by omega, rfl, I5.out, V5.out, fun j hj => absurd hj (Nat.not_lt_zero _)⟩
          case round =>
            clear I I5 V5
            obtain ⟨n, hn, hg, rfl, I, V, A⟩ := hrel
            obtain ⟨w2, rfl⟩ : ∃ w2 : World, w2 = wr := ⟨_, rfl⟩
            have tc := I.out.tb.c0
            have tl := I.out.tb.lt
            have hbs := I.out.b.size
            have hb := Nat.lt_of_lt_of_le HB.out hbs
            by_cases hln : n < t.length
            · have hlnz : (n : Int) < (t.length : Int) := by omega
              have hn0 : (0 : Int) ≤ (n : Int) := Int.natCast_nonneg _
              have hm8 : t.length - (n + 1) < t.length - n := Nat.sub_lt_sub_left hln (Nat.lt_succ_self n)
              obtain ⟨b', o', ve, vd, va, vx, hae, _, hc, hs⟩ := (H.out.up I.out.b).one hln
              injection hae with hae
              injection hae with e1 e2 _
              subst e1 e2
              have g0 := hc.c0
              have HF := Lib.hid (show codeK t 2 n = if (nod t n).k ≠ 0 ∧ hasL (visits t 0) n = false then 11 else if farL (visits t 0) n = true then 10 else 0 from rfl)
              rw [HH.out n, HFL.out n] at HF
              clear hc hs
              generalize (nod t n).k = kd at *
              go_wp2_with fail
              go_loopg [9, 10, 11] L.length (fun gg s9 s10 s11 wq => ∃ j : Nat, j ≤ L.length ∧ L.length - j ≤ gg ∧ s9 = .bool (kd == 0 || hasL (L.take j) n) ∧ s10 = .bool (farL (L.take j) n) ∧ s11 = .int .i64 j ∧ Aside (w2 = wq))
              case atStart => exact ⟨0, by omega, by omega, by simp [hasL], rfl, rfl, rfl⟩
              case round =>
                obtain ⟨j, hj, hg2, rfl, rfl, rfl, hw⟩ := hrel
                have hw2 := hw.out
                subst hw2
                clear hw
                by_cases hlj : j < L.length
                · have hljz : (j : Int) < (L.length : Int) := by omega
                  have hj0 : (0 : Int) ≤ (j : Int) := Int.natCast_nonneg _
                  have hm7 : L.length - (j + 1) < L.length - j := Nat.sub_lt_sub_left hlj (Nat.lt_succ_self j)
                  obtain ⟨_, r0, r1, r2⟩ := V.out.cell hlj
                  have HT1 := Lib.hid (hasL_take (i := n) hlj)
                  have HT2 := Lib.hid (farL_take (i := n) hlj)
                  have HTF := Lib.hid (tooFar_bP (HNM.out _ (vis_lt hlj)))
                  generalize L.getD j V0 = p at *
                  obtain ⟨xs, m⟩ := p
                  simp only at r0 r1 r2 HT1 HT2 HTF
                  generalize tooFar xs = tf at *
                  generalize hasL (L.take j) n = hs at *
                  generalize hfr : farL (L.take j) n = fr at *
                  by_cases hmn : m = n
                  · subst hmn
                    cases fr with
                    | true =>
                      go_wp2_with fail
                      go_roundg (L.length - (j + 1))
                      case measure => exact Nat.lt_of_lt_of_le hm7 hg2
                      case rel => exact ⟨j + 1, by omega, by omega, by rw [HT1.out]; simp, by rw [HT2.out]; simp, by go_num, rfl⟩
                    | false =>
                      by_cases h8 : 8 < xs.length
                      · have h8z : (8 : Int) < (xs.length : Int) := by omega
                        have htf : tf = true := by rw [HTF.out]; simp [h8]
                        subst htf
                        clear h8 HTF
                        go_wp2_with fail
                        go_roundg (L.length - (j + 1))
                        case measure => exact Nat.lt_of_lt_of_le hm7 hg2
                        case rel => exact ⟨j + 1, by omega, by omega, by rw [HT1.out]; simp, by rw [HT2.out]; simp, by go_num, rfl⟩
                      · have h8z : decide ((8 : Int) < (xs.length : Int)) = false := by rw [decide_eq_false_iff_not]; omega
                        by_cases h1 : 100 < (bP xs).size
                        · have h1z : (100 : Int) < ((bP xs).size : Int) := by omega
                          have htf : tf = true := by rw [HTF.out]; simp [h1]
                          subst htf
                          clear h8 h1 HTF
                          go_wp2_with fail
                          go_roundg (L.length - (j + 1))
                          case measure => exact Nat.lt_of_lt_of_le hm7 hg2
                          case rel => exact ⟨j + 1, by omega, by omega, by rw [HT1.out]; simp, by rw [HT2.out]; simp, by go_num, rfl⟩
                        · have h1z : decide ((100 : Int) < ((bP xs).size : Int)) = false := by rw [decide_eq_false_iff_not]; omega
                          have htf : tf = false := by rw [HTF.out]; simp [h1, h8]
                          subst htf
                          clear h8 h1 HTF
                          go_wp2_with fail
                          go_roundg (L.length - (j + 1))
                          case measure => exact Nat.lt_of_lt_of_le hm7 hg2
                          case rel => exact ⟨j + 1, by omega, by omega, by rw [HT1.out]; simp, by rw [HT2.out]; simp, by go_num, rfl⟩
                  · have hmb : ((m : Int) == (n : Int)) = false := by rw [beq_eq_false_iff_ne]; omega
                    have hmd : decide (m = n) = false := decide_eq_false hmn
                    rw [hmd] at HT1 HT2
                    clear hmn hmd HTF
                    go_wp2_with fail
                    go_roundg (L.length - (j + 1))
                    case measure => exact Nat.lt_of_lt_of_le hm7 hg2
                    case rel => exact ⟨j + 1, by omega, by omega, by rw [HT1.out]; simp, by rw [HT2.out]; simp, by go_num, rfl⟩
                · obtain rfl : j = L.length := by omega
                  rw [List.take_length]
                  generalize hasL L n = hs at *
                  generalize farL L n = fr at *
                  by_cases hgh : (kd == 0 || hs) = true
                  · rw [hgh]
                    have hnot : ¬ (kd ≠ 0 ∧ hs = false) := by
                      rintro ⟨h1, h2⟩
                      rw [h2, Bool.or_false] at hgh
                      exact h1 (by simpa using hgh)
                    rw [if_neg hnot] at HF
                    clear hnot hgh
                    cases fr with
                    | true =>
                      have HQ := Lib.hid (HF.out.trans (if_pos rfl))
                      have HV := Lib.hid (valT_hit HD.out (k := 2) (by omega) P2.out hln HQ.out (by decide) A.out)
                      clear HF
                      go_wp2_with fail
                      refine (newFault_any _ _ _).mono ?_
                      rintro e w9 ⟨rfl, b9⟩
                      have I9 := Lib.hid (I.out.step b9)
                      obtain ⟨l9, a0, a1, f0, f1⟩ := I9.out.fb
                      clear b9
                      go_wp2
                      exact bodyPost_ret (v := faultV 10 n) (by simp [results, Try.results9, faultV, go_sem, a0, a1]) rfl ⟨by rw [HV.out], (I9.out.b.setCell (by first | omega | (simp; done) | (simp; omega)) _).setCell (by first | omega | (simp; done) | (simp; omega)) _⟩
                    | false =>
                      have HQ := Lib.hid (HF.out.trans (if_neg (by decide)))
                      clear HF
                      go_wp2_with fail
                      go_roundg (t.length - (n + 1))
                      case measure => exact Nat.lt_of_lt_of_le hm8 hg
                      case rel =>
                        refine ⟨n + 1, by omega, by omega, by go_num, I.out, V.out, (show Aside _ from fun j hj => ?_)⟩
                        by_cases e : j = n
                        · subst e; exact HQ.out
                        · exact A.out j (by omega)
                  · have hgf : (kd == 0 || hs) = false := by simpa using hgh
                    rw [hgf]
                    have hyes : kd ≠ 0 ∧ hs = false := by
                      rw [Bool.or_eq_false_iff] at hgf
                      exact ⟨by simpa using hgf.1, hgf.2⟩
                    have HQ := Lib.hid (HF.out.trans (if_pos hyes))
                    have HV := Lib.hid (valT_hit HD.out (k := 2) (by omega) P2.out hln HQ.out (by decide) A.out)
                    clear HF hgh hgf hyes
                    go_wp2_with fail
                    refine (newFault_any _ _ _).mono ?_
                    rintro e w9 ⟨rfl, b9⟩
                    have I9 := Lib.hid (I.out.step b9)
                    obtain ⟨l9, a0, a1, f0, f1⟩ := I9.out.fb
                    clear b9
                    go_wp2
                    exact bodyPost_ret (v := faultV 11 n) (by simp [results, Try.results9, faultV, go_sem, a0, a1]) rfl ⟨by rw [HV.out], (I9.out.b.setCell (by first | omega | (simp; done) | (simp; omega)) _).setCell (by first | omega | (simp; done) | (simp; omega)) _⟩
            · obtain rfl : n = t.length := by omega
              have P3 := Lib.hid (P2.out.succ A.out)
              clear A
              go_wp2_with fail
              clear tc tl hbs hb hln hg hn
              go_loopg [12] t.length (fun gg s12 wr => ∃ n : Nat, n ≤ t.length ∧ t.length - n ≤ gg ∧ s12 = .int .i64 n ∧ Aside (TInv w wr (some ⟨b, o, none⟩) t.length c) ∧ Aside (∀ j, j < n → codeK t 3 j = 0))
              case atStart => exact ⟨0, by omega, by omega, rfl, I.out, fun j hj => absurd hj (Nat.not_lt_zero _)⟩
              case round =>
                clear I V
                obtain ⟨n, hn, hg, rfl, I, A⟩ := hrel
                obtain ⟨w2, rfl⟩ : ∃ w2 : World, w2 = wr := ⟨_, rfl⟩
                have tc := I.out.tb.c0
                have tl := I.out.tb.lt
                have hbs := I.out.b.size
                have hb := Nat.lt_of_lt_of_le HB.out hbs
                by_cases hln : n < t.length
                · have hlnz : (n : Int) < (t.length : Int) := by omega
                  have hn0 : (0 : Int) ≤ (n : Int) := Int.natCast_nonneg _
                  have hm8 : t.length - (n + 1) < t.length - n := Nat.sub_lt_sub_left hln (Nat.lt_succ_self n)
                  obtain ⟨b', o', ve, vd, va, vx, hae, _, hc, hs⟩ := (H.out.up I.out.b).one hln
                  injection hae with hae
                  injection hae with e1 e2 _
                  subst e1 e2
                  have g6 := hc.c6
                  have HF := Lib.hid (show codeK t 3 n = if (nod t n).q ≠ 0 ∧ (nod t n).q < (usg t (visits t n) : Int) then 14 else 0 from rfl)
                  have hq0 := (O1.out.fine n).q0
                  have D := Lib.hid (fun (hq : (nod t n).q ≠ 0) => fun W (hW : Below w2.heap.size w2 W) => refUsage_any (some ⟨b, o, none⟩) c t n W O1.out (Pass.from_ HD.out P3.out hln (fun hk => hq ((O1.out.fine n).dir (by rw [hk]; decide)).2)).1 ((H.out.up I.out.b).up hW))
                  clear hc hs
                  generalize usg t (visits t n) = u at *
                  generalize (nod t n).q = q at *
                  by_cases hq : 0 < q
                  · have D2 := Lib.hid (D.out (by omega))
                    clear D
                    have K := Lib.hid (fun y (hy : Below w2.heap.size w2 y) => (show Below w2.heap.size w2 y ∧ y.cell? ⟨w.heap.size, 0, none⟩ = some (.slice (some ⟨b, o, none⟩) t.length c) ∧ y.cell? ⟨b, o + n * 8 + 6, none⟩ = some (.int .i64 q) from
                      ⟨hy, (hy.cell (p := ⟨w.heap.size, 0, none⟩) tl).trans tc, (hy.cell (p := ⟨b, _, none⟩) hb).trans g6⟩))
                    by_cases hu : q < (u : Int)
                    · have HQ := Lib.hid (HF.out.trans (if_pos ⟨by omega, hu⟩))
                      have HV := Lib.hid (valT_hit HD.out (k := 3) (by omega) P3.out hln HQ.out (by decide) A.out)
                      clear HF
                      go_wp2_with fail
                      go_region_held3 (fun y => Below w2.heap.size w2 y ∧ y.cell? ⟨w.heap.size, 0, none⟩ = some (.slice (some ⟨b, o, none⟩) t.length c) ∧ y.cell? ⟨b, o + n * 8 + 6, none⟩ = some (.int .i64 q))
                        (first | exact K.out _ hR | exact K.out _ (Below.refl _ _).drew)
                        ((go_at_call 10; have hs0 := And.left ‹Below w2.heap.size w2 _ ∧ _›; refine (D2.out _ hs0).mono ?_; rintro e y ⟨rfl, hb9⟩; have hR := hs0.trans (hb9.mono hs0.size)))
                      all_goals
                        have hz := And.left ‹Below w2.heap.size w2 _ ∧ _›
                        have I8 := Lib.hid (I.out.step hz)
                        go_wp2_with fail
                        refine (newFault_any _ _ _).mono ?_
                        rintro e w9 ⟨rfl, b9⟩
                        have I9 := Lib.hid (I8.out.step b9)
                        obtain ⟨l9, a0, a1, f0, f1⟩ := I9.out.fb
                        clear b9
                        go_wp2
                        exact bodyPost_ret (v := faultV 14 n) (by simp [results, Try.results9, faultV, go_sem, a0, a1]) rfl ⟨by rw [HV.out], (I9.out.b.setCell (by first | omega | (simp; done) | (simp; omega)) _).setCell (by first | omega | (simp; done) | (simp; omega)) _⟩
                    · have HQ := Lib.hid (HF.out.trans (if_neg (fun h => hu h.2)))
                      have hu2 : decide (q < (u : Int)) = false := by rw [decide_eq_false_iff_not]; exact hu
                      clear HF hu
                      go_wp2_with fail
                      go_region_held3 (fun y => Below w2.heap.size w2 y ∧ y.cell? ⟨w.heap.size, 0, none⟩ = some (.slice (some ⟨b, o, none⟩) t.length c) ∧ y.cell? ⟨b, o + n * 8 + 6, none⟩ = some (.int .i64 q))
                        (first | exact K.out _ hR | exact K.out _ (Below.refl _ _).drew)
                        ((go_at_call 10; have hs0 := And.left ‹Below w2.heap.size w2 _ ∧ _›; refine (D2.out _ hs0).mono ?_; rintro e y ⟨rfl, hb9⟩; have hR := hs0.trans (hb9.mono hs0.size)))
                      all_goals
                        have hz := And.left ‹Below w2.heap.size w2 _ ∧ _›
                        have I8 := Lib.hid (I.out.step hz)
                        go_wp2_with fail
                        go_roundg (t.length - (n + 1))
                        case measure => exact Nat.lt_of_lt_of_le hm8 hg
                        case rel =>
                          refine ⟨n + 1, by omega, by omega, by go_num, I8.out, (show Aside _ from fun j hj => ?_)⟩
                          by_cases e : j = n
                          · subst e; exact HQ.out
                          · exact A.out j (by omega)
                  · obtain rfl : q = 0 := by omega
                    have HQ := Lib.hid (HF.out.trans (if_neg (fun h => h.1 rfl)))
                    have I8 := Lib.hid (I.out.step (Below.refl w2.heap.size w2).drew)
                    clear HF D hq
                    go_wp2_with fail
                    go_region
                    all_goals
                      go_wp2_with fail
                      go_roundg (t.length - (n + 1))
                      case measure => exact Nat.lt_of_lt_of_le hm8 hg
                      case rel =>
                        refine ⟨n + 1, by omega, by omega, by go_num, I8.out, (show Aside _ from fun j hj => ?_)⟩
                        by_cases e : j = n
                        · subst e; exact HQ.out
                        · exact A.out j (by omega)
                · obtain rfl : n = t.length := by omega
                  have HV := Lib.hid (valT_miss HD.out (show Pass t 4 from P3.out.succ A.out))
                  obtain ⟨l9, a0, a1, f0, f1⟩ := I.out.fb
                  go_wp2
                  exact bodyPost_ret (v := faultV 0 0) (by simp [results, Try.results9, faultV, go_sem, a0, a1]) rfl ⟨by rw [HV.out], (I.out.b.setCell (by first | omega | (simp; done) | (simp; omega)) _).setCell (by first | omega | (simp; done) | (simp; omega)) _⟩

set_option maxRecDepth 100000 in
set_option maxHeartbeats 1600000 in
theorem vtree_any (a : Option Addr) (c : Nat) (t : Tr) (w : World) (h : Nods w w.heap.size a c t) :
    Calls Try.prog 9 #[.agg #[.slice a t.length c]] w fun e w' => e = .returned (faultV (valT t).1 (valT t).2) ∧ Below w.heap.size w w' := by
  have hll := h.len
  by_cases h0 : t.length = 0
  · have HV := Lib.hid (valT_none h0)
    clear h
    generalize t.length = m at *
    subst h0
    have I0 := Lib.hid (show TInv w ((w.alloc (.cells #[.slice a 0 c] 24)).alloc (.cells #[.int .i64 0, .int .i64 0] 27)) a 0 c from
      ⟨((Below.refl _ _).alloc (Nat.le_refl _) _).alloc (by first | omega | (simp; done) | (simp; omega)) _, (One.new w _ _).alloc _, (FBox.new (w.alloc _) 0 0 _).at_ (by simp)⟩)
    go_enter Try.func9, Try.ntmps9
    go_wp2_with fail
    refine (newFault_any _ _ _).mono ?_
    rintro e w9 ⟨rfl, b9⟩
    have I9 := Lib.hid (I0.out.step b9)
    obtain ⟨l9, a0, a1, f0, f1⟩ := I9.out.fb
    clear b9
    go_wp2
    exact bodyPost_ret (v := faultV 6 0) (by simp [results, Try.results9, faultV, go_sem, a0, a1]) rfl ⟨by rw [HV.out], (I9.out.b.setCell (by first | omega | (simp; done) | (simp; omega)) _).setCell (by first | omega | (simp; done) | (simp; omega)) _⟩
  · have hlz : ((t.length : Int) == 0) = false := by rw [beq_eq_false_iff_ne]; omega
    by_cases h40 : 40 < t.length
    · have HV := Lib.hid (valT_many h40)
      have hgz : (40 : Int) < (t.length : Int) := by omega
      clear h h0
      have I0 := Lib.hid (show TInv w ((w.alloc (.cells #[.slice a t.length c] 24)).alloc (.cells #[.int .i64 0, .int .i64 0] 27)) a t.length c from
        ⟨((Below.refl _ _).alloc (Nat.le_refl _) _).alloc (by first | omega | (simp; done) | (simp; omega)) _, (One.new w _ _).alloc _, (FBox.new (w.alloc _) 0 0 _).at_ (by simp)⟩)
      go_enter Try.func9, Try.ntmps9
      go_wp2_with fail
      refine (newFault_any _ _ _).mono ?_
      rintro e w9 ⟨rfl, b9⟩
      have I9 := Lib.hid (I0.out.step b9)
      obtain ⟨l9, a0, a1, f0, f1⟩ := I9.out.fb
      clear b9
      go_wp2
      exact bodyPost_ret (v := faultV 2 0) (by simp [results, Try.results9, faultV, go_sem, a0, a1]) rfl ⟨by rw [HV.out], (I9.out.b.setCell (by first | omega | (simp; done) | (simp; omega)) _).setCell (by first | omega | (simp; done) | (simp; omega)) _⟩
    · by_cases hr : (nod t 0).k = 1
      · exact vtree_head a c t w ⟨by omega, by omega, hr⟩ h
      · have HV := Lib.hid (valT_root h0 h40 hr)
        have hgz : decide ((40 : Int) < (t.length : Int)) = false := by rw [decide_eq_false_iff_not]; omega
        have h0z : (0 : Int) < (t.length : Int) := by omega
        obtain ⟨b, o, ve, vd, va, vx, rfl, hb, hc, hs⟩ := h.one (j := 0) (by omega)
        have g0 := hc.c0
        have g0 : w.cell? ⟨b, o, none⟩ = some (.int .i64 (nod t 0).k) := by simpa using g0
        clear hc hs h h0
        generalize (nod t 0).k = k at *
        have hk1 : (k != 1) = true := by simpa using hr
        clear hr
        have I0 := Lib.hid (show TInv w ((w.alloc (.cells #[.slice (some ⟨b, o, none⟩) t.length c] 24)).alloc (.cells #[.int .i64 0, .int .i64 0] 27)) (some ⟨b, o, none⟩) t.length c from
          ⟨((Below.refl _ _).alloc (Nat.le_refl _) _).alloc (by first | omega | (simp; done) | (simp; omega)) _, (One.new w _ _).alloc _, (FBox.new (w.alloc _) 0 0 _).at_ (by simp)⟩)
        go_enter Try.func9, Try.ntmps9
        go_wp2_with fail
        refine (newFault_any _ _ _).mono ?_
        rintro e w9 ⟨rfl, b9⟩
        have I9 := Lib.hid (I0.out.step b9)
        obtain ⟨l9, a0, a1, f0, f1⟩ := I9.out.fb
        clear b9
        go_wp2
        exact bodyPost_ret (v := faultV 8 0) (by simp [results, Try.results9, faultV, go_sem, a0, a1]) rfl ⟨by rw [HV.out], (I9.out.b.setCell (by first | omega | (simp; done) | (simp; omega)) _).setCell (by first | omega | (simp; done) | (simp; omega)) _⟩

end Go.Proofs.Ytndhhofidkaomaa
