/- Package memfs and what it calls, at this seat's translation.
   Condition: as each theorem states; this text: MfSame. -/
import Derived.Test.YtmbbmmnpkdfecaaGreatDoorMb24
import Derived.Test.YtmbbmmnpkdfecaaGreatDoorMb1
import Derived.Laws.IdiomStrings

set_option linter.all false

/- The checker's equality at two slices of entries, two inodes, two trees, two replies that read the same. Conditions: they lie in memory as they read. -/

set_option linter.all false
namespace Go.Proofs.YtmbbmmnpkdfecaaGreatDoor
open Go.RowKit

set_option maxHeartbeats 800000 in
theorem desSame_any (v1 v2 : Value) (xs : List DE) (w : World) (B1 B2 : Nat) (h1 : DEs w B1 v1 xs) (h2 : DEs w B2 v2 xs) :
    Calls Tryz.prog 50 #[v1, v2] w fun e w' => e = .returned (.bool true) ∧ ∃ q, w' = w.drewN q := by
  obtain ⟨a1, c1, rfl, _, hl, _, hx1⟩ := h1
  obtain ⟨a2, c2, rfl, _, _, _, hx2⟩ := h2
  have HX1 := Lib.hid hx1
  have HX2 := Lib.hid hx2
  clear hx1 hx2
  go_enter Tryz.func50, Tryz.ntmps50
  go_wp2
  go_loopg [5] xs.length (fun gg s5 wr => ∃ k q : Nat, k ≤ xs.length ∧ xs.length - k ≤ gg ∧ s5 = .int .i64 k ∧ wr = w.drewN q)
  case atStart => exact ⟨0, 0, by omega, by omega, rfl, rfl⟩
  case round =>
    obtain ⟨k, q, hk, hg, rfl, rfl⟩ := hrel
    by_cases hlt : k < xs.length
    · have hltz : (k : Int) < (xs.length : Int) := by omega
      have hi0 : (0 : Int) ≤ (k : Int) := Int.natCast_nonneg _
      obtain ⟨b1, o1, rfl, _, hj1⟩ := HX1.out (by omega)
      obtain ⟨b2, o2, rfl, _, hj2⟩ := HX2.out (by omega)
      obtain ⟨g0, g1⟩ := hj1 k hlt
      obtain ⟨d0, d1⟩ := hj2 k hlt
      clear hj1 hj2
      generalize xs.getD k D0 = y at *
      obtain ⟨u, a⟩ := y
      simp only at g0 g1 d0 d1
      go_wp2_with fail
      go_quiet (fail)
      go_wp2_with fail
      go_roundg (xs.length - (k + 1))
      case measure => omega
      case rel => exact ⟨k + 1, _, by omega, by omega, by go_num, rfl⟩
    · have hltz : ¬ (k : Int) < (xs.length : Int) := by omega
      go_wp2_with fail
      go_ret
      exact ⟨rfl, _, rfl⟩

/-- string(b), b a slice of bytes. -/
theorem byts_str {w : World} {B : Nat} {v : Value} {d : List UInt8} (h : Byts w B v d) : (convert 25 9 v).run Tryz.prog w = .ok (.string (toB d)) w := by
  obtain ⟨a, c, rfl, hc, hl, hx⟩ := h
  cases a with
  | none =>
    have hd : d = [] := by
      rcases Nat.eq_zero_or_pos d.length with h0 | h0
      · exact List.eq_nil_of_length_eq_zero h0
      · obtain ⟨b, o, hb, _⟩ := hx h0; cases hb
    subst hd
    exact run_convert_bytes_nil w _ _ Tryz.underlying25 Tryz.underlying5 _ _ _ Tryz.underlying9
  | some ad =>
    refine run_convert_bytes_back w _ _ _ ad c d Tryz.underlying25 Tryz.underlying5 Tryz.underlying9 (fun j hj => ?_)
    obtain ⟨b, o, hb, _, hj2⟩ := hx (by omega)
    injection hb with hb
    subst hb
    rw [add_plain2, hj2 j hj, List.getD_eq_getElem?_getD, List.getElem?_eq_getElem hj]
    rfl

theorem two_new (w : World) (l m : List Value) (T U : TypeId) : Below w.heap.size w ((w.alloc (.cells l.toArray T)).alloc (.cells m.toArray U)) ∧ Blk ((w.alloc (.cells l.toArray T)).alloc (.cells m.toArray U)) w.heap.size l ∧ Blk ((w.alloc (.cells l.toArray T)).alloc (.cells m.toArray U)) (w.heap.size + 1) m :=
  ⟨((Below.refl _ _).alloc (Nat.le_refl _) _).alloc (by simp) _, (Blk.new w l T).alloc _, (Blk.new (w.alloc (.cells l.toArray T)) m U).at_ (by simp)⟩

set_option maxRecDepth 100000 in
set_option maxHeartbeats 1600000 in
theorem inodesSame_any (x : Ino) (s1 s2 : Sl) (w : World) (h1 : NodS w w.heap.size s1.e s1.d s1.a s1.x x.nod) (b1 : Byts w w.heap.size s1.d x.d) (h2 : NodS w w.heap.size s2.e s2.d s2.a s2.x x.nod) (b2 : Byts w w.heap.size s2.d x.d) :
    Calls Tryz.prog 24 #[.agg #[.int .i64 x.k, .int .i64 x.o, s1.e, s1.d, s1.a, s1.x, .int .i64 x.q, .int .i64 x.v], .agg #[.int .i64 x.k, .int .i64 x.o, s2.e, s2.d, s2.a, s2.x, .int .i64 x.q, .int .i64 x.v]] w fun e w' => e = .returned (.bool true) ∧ Below w.heap.size w w' := by
  obtain ⟨e1, d1, a1, x1⟩ := s1
  obtain ⟨e2, d2, a2, x2⟩ := s2
  simp only at h1 b1 h2 b2 ⊢
  have CE := Lib.hid (fun W (hb : Below w.heap.size w W) => desSame_any e1 e2 x.es W _ _ (h1.es.up hb) (h2.es.up hb))
  have CA := Lib.hid (fun W (hb : Below w.heap.size w W) => aclsSame_any a1 a2 x.ac W w.heap.size w.heap.size (h1.ac.keep fun b o hB => hb.cell (p := ⟨b, o, none⟩) hB) (h2.ac.keep fun b o hB => hb.cell (p := ⟨b, o, none⟩) hB))
  have CX := Lib.hid (fun W (hb : Below w.heap.size w W) => attrsSame_any x1 x2 x.xs W w.heap.size w.heap.size (h1.xs.keep fun b o hB => hb.cell (p := ⟨b, o, none⟩) hB) (h2.xs.keep fun b o hB => hb.cell (p := ⟨b, o, none⟩) hB))
  have CB1 := Lib.hid (fun W (hb : Below w.heap.size w W) => byts_str (b1.up hb))
  have CB2 := Lib.hid (fun W (hb : Below w.heap.size w W) => byts_str (b2.up hb))
  obtain ⟨e1a, e1c, rfl, hq0⟩ := id h1.es
  obtain ⟨e2a, e2c, rfl, hq1⟩ := id h2.es
  obtain ⟨d1a, d1c, rfl, hq2⟩ := id b1
  obtain ⟨d2a, d2c, rfl, hq3⟩ := id b2
  obtain ⟨a1a, a1c, rfl, hq4⟩ := id h1.ac
  obtain ⟨a2a, a2c, rfl, hq5⟩ := id h2.ac
  obtain ⟨x1a, x1c, rfl, hq6⟩ := id h1.xs
  obtain ⟨x2a, x2c, rfl, hq7⟩ := id h2.xs
  clear h1 h2 b1 b2 hq0 hq1 hq2 hq3 hq4 hq5 hq6 hq7
  generalize x.k = xk at *
  generalize x.o = xo at *
  generalize x.q = xq at *
  generalize x.v = xv at *
  generalize x.nod.es.length = le at *
  generalize x.nod.ac.length = la at *
  generalize x.nod.xs.length = lx at *
  generalize x.d.length = ld at *
  have T := Lib.hid (two_new w [.int .i64 xk, .int .i64 xo, .slice e1a le e1c, .slice d1a ld d1c, .slice a1a la a1c, .slice x1a lx x1c, .int .i64 xq, .int .i64 xv] [.int .i64 xk, .int .i64 xo, .slice e2a le e2c, .slice d2a ld d2c, .slice a2a la a2c, .slice x2a lx x2c, .int .i64 xq, .int .i64 xv] 63 63)
  go_enter Tryz.func24, Tryz.ntmps24
  go_upto_region 1 with fail
  generalize (w.alloc (.cells #[.int .i64 xk, .int .i64 xo, .slice e1a le e1c, .slice d1a ld d1c, .slice a1a la a1c, .slice x1a lx x1c, .int .i64 xq, .int .i64 xv] 63)).alloc (.cells #[.int .i64 xk, .int .i64 xo, .slice e2a le e2c, .slice d2a ld d2c, .slice a2a la a2c, .slice x2a lx x2c, .int .i64 xq, .int .i64 xv] 63) = w2 at *
  generalize w.heap.size + 1 = N at *
  obtain ⟨tb, t1, t2⟩ := T.out
  have HB := Lib.hid tb
  have k0 := t1.c 0 _ rfl
  have k1 := t1.c 1 _ rfl
  have k2 := t1.c 2 _ rfl
  have k3 := t1.c 3 _ rfl
  have k4 := t1.c 4 _ rfl
  have k5 := t1.c 5 _ rfl
  have k6 := t1.c 6 _ rfl
  have k7 := t1.c 7 _ rfl
  have m0 := t2.c 0 _ rfl
  have m1 := t2.c 1 _ rfl
  have m2 := t2.c 2 _ rfl
  have m3 := t2.c 3 _ rfl
  have m4 := t2.c 4 _ rfl
  have m5 := t2.c 5 _ rfl
  have m6 := t2.c 6 _ rfl
  have m7 := t2.c 7 _ rfl
  have kl := t1.lt
  have ml := t2.lt
  have kc1 := CB1.out w2 tb
  have kc2 := CB2.out w2 tb
  clear tb t1 t2 T CB1 CB2
  generalize toB x.d = sd at *
  go_wp2_with fail
  refine (CE.out _ HB.out).mono ?_
  rintro e z1 ⟨rfl, q1, rfl⟩
  go_wp2_with fail
  refine (CA.out _ (below_drewN HB.out _)).mono ?_
  rintro e z2 ⟨rfl, q2, rfl⟩
  go_wp2_with fail
  refine (CX.out _ (below_drewN HB.out _)).mono ?_
  rintro e z3 ⟨rfl, q3, rfl⟩
  go_wp2
  go_ret
  exact ⟨rfl, below_drewN HB.out _⟩

set_option maxRecDepth 100000 in
set_option maxHeartbeats 3200000 in
theorem treesSame_any (a1 a2 : Option Addr) (c1 c2 : Nat) (t : FT) (w : World) (h1 : FNods w w.heap.size a1 c1 t) (h2 : FNods w w.heap.size a2 c2 t) :
    Calls Tryz.prog 17 #[.agg #[.slice a1 t.length c1], .agg #[.slice a2 t.length c2]] w fun e w' => e = .returned (.bool true) ∧ Below w.heap.size w w' := by
  have H1 := Lib.hid h1
  have H2 := Lib.hid h2
  have hll := h1.len
  clear h1 h2
  have T := Lib.hid (two_new w [.slice a1 t.length c1] [.slice a2 t.length c2] 24 24)
  go_enter Tryz.func17, Tryz.ntmps17
  go_upto_region 1 with fail
  generalize (w.alloc (.cells #[.slice a1 t.length c1] 24)).alloc (.cells #[.slice a2 t.length c2] 24) = w2 at *
  generalize w.heap.size + 1 = N at *
  have k0 := T.out.2.1.c 0 _ rfl
  have m0 := T.out.2.2.c 0 _ rfl
  have kl := T.out.2.1.lt
  have ml := T.out.2.2.lt
  go_wp2_with fail
  go_loopg [5] t.length (fun gg s5 wr => ∃ i : Nat, i ≤ t.length ∧ t.length - i ≤ gg ∧ s5 = .int .i64 i ∧ Aside (Below w.heap.size w wr) ∧ Aside (Blk wr w.heap.size [.slice a1 t.length c1]) ∧ Aside (Blk wr N [.slice a2 t.length c2]))
  case atStart => exact ⟨0, by omega, by omega, rfl, T.out.1, T.out.2.1, T.out.2.2⟩
  case round =>
    obtain ⟨i, hi, hg, rfl, B, K, M⟩ := hrel
    clear k0 m0 kl ml
    have k0 := K.out.c 0 _ rfl
    have m0 := M.out.c 0 _ rfl
    have kl := K.out.lt
    have ml := M.out.lt
    by_cases hlt : i < t.length
    · have hltz : (i : Int) < (t.length : Int) := by omega
      have hi0 : (0 : Int) ≤ (i : Int) := Int.natCast_nonneg _
      have hm9 : t.length - (i + 1) < t.length - i := Nat.sub_lt_sub_left hlt (Nat.lt_succ_self i)
      obtain ⟨b1, o1, rfl, hb1, hj1⟩ := (H1.out.up B.out).at_ (by omega)
      obtain ⟨b2, o2, rfl, hb2, hj2⟩ := (H2.out.up B.out).at_ (by omega)
      obtain ⟨s1, hc1, hs1, hy1⟩ := hj1 i hlt
      obtain ⟨s2, hc2, hs2, hy2⟩ := hj2 i hlt
      have CI := Lib.hid (fun W (hb : Below wr.heap.size wr W) => inodesSame_any (ino t i) s1 s2 W (hs1.up hb) (hy1.up hb) (hs2.up hb) (hy2.up hb))
      have c0 := hc1.c0
      have c1' := hc1.c1
      have c2' := hc1.c2
      have c3 := hc1.c3
      have c4 := hc1.c4
      have c5 := hc1.c5
      have c6 := hc1.c6
      have c7 := hc1.c7
      have d0 := hc2.c0
      have d1 := hc2.c1
      have d2 := hc2.c2
      have d3 := hc2.c3
      have d4 := hc2.c4
      have d5 := hc2.c5
      have d6 := hc2.c6
      have d7 := hc2.c7
      have e0 : (ino t i).nod.k = (ino t i).k := rfl
      have e1 : (ino t i).nod.o = (ino t i).o := rfl
      have e6 : (ino t i).nod.q = (ino t i).q := rfl
      have e7 : (ino t i).nod.v = (ino t i).v := rfl
      rw [e0] at c0 d0
      rw [e1] at c1' d1
      rw [e6] at c6 d6
      rw [e7] at c7 d7
      clear hj1 hj2 hc1 hs1 hy1 hc2 hs2 hy2 e0 e1 e6 e7
      generalize (ino t i).k = xk at *
      generalize (ino t i).o = xo at *
      generalize (ino t i).q = xq at *
      generalize (ino t i).v = xv at *
      obtain ⟨u1, u2, u3, u4⟩ := s1
      obtain ⟨v1, v2, v3, v4⟩ := s2
      simp only at c2' c3 c4 c5 d2 d3 d4 d5 CI
      go_upto_region 6 with fail
      go_region_with (go_at_call 24; refine (CI.out _ (below_drewN (Below.refl _ _) _)).mono ?_; rintro e z ⟨rfl, hz⟩)
      all_goals
        have hz3 : Below wr.heap.size wr z := by first | exact hz | exact ((Below.refl wr.heap.size wr).drew).trans hz
        have BZ := Lib.hid (B.out.trans (hz3.mono B.out.size))
        have KZ := Lib.hid (K.out.up hz3)
        have MZ := Lib.hid (M.out.up hz3)
        clear hz hz3
        go_wp2
        go_roundg (t.length - (i + 1))
        case measure => exact Nat.lt_of_lt_of_le hm9 hg
        case rel => exact ⟨i + 1, by omega, by omega, by go_num, BZ.out, KZ.out, MZ.out⟩
    · obtain rfl : i = t.length := by omega
      go_wp2
      go_ret
      exact ⟨rfl, B.out⟩

end Go.Proofs.YtmbbmmnpkdfecaaGreatDoor
